import PyProof.Rows.All
import Wide.All
import OpenK.AllK
import Wide.FinOn
import Lean
import PyProof.EqAt
import PyProof.EqKinds
import PyProof.TupleCall
import PySem.Challenge.RW_pastdesk_k02_undone_told
-- CHANGE: your row's module here, as the last of these rows
set_option Elab.async false
set_option linter.all false
/-- The head would lay an equation by this name, for a constant of its own; nothing needs it, and it takes much room: with the name taken the head goes on without it. -/
def PySem.W.Fast.tw14015758731723377171 : Unit := ()
/-- The head would lay an equation by this name, for a constant of its own; nothing needs it, and it takes much room: with the name taken the head goes on without it. -/
def PySem.W.Fast.tw17762367461837918757 : Unit := ()
/-- The head would lay an equation by this name, for a constant of its own; nothing needs it, and it takes much room: with the name taken the head goes on without it. -/
def PySem.W.Fast.tw16463688935975555876 : Unit := ()
/-- The head would lay an equation by this name, for a constant of its own; nothing needs it, and it takes much room: with the name taken the head goes on without it. -/
def PySem.W.Fast.tw9734755563423145637 : Unit := ()
/-- The head would lay an equation by this name, for a constant of its own; nothing needs it, and it takes much room: with the name taken the head goes on without it. -/
def PySem.W.Fast.tw10767153030811572226 : Unit := ()
/-- The head would lay an equation by this name, for a constant of its own; nothing needs it, and it takes much room: with the name taken the head goes on without it. -/
def PySem.W.Fast.tw15471628026518877961 : Unit := ()
/-- The head would lay an equation by this name, for a constant of its own; nothing needs it, and it takes much room: with the name taken the head goes on without it. -/
def PySem.W.Fast.tw2673804667916822609 : Unit := ()
/-- The head would lay an equation by this name, for a constant of its own; nothing needs it, and it takes much room: with the name taken the head goes on without it. -/
def PySem.W.Fast.tw17268126131727123733 : Unit := ()
/-- The head would lay an equation by this name, for a constant of its own; nothing needs it, and it takes much room: with the name taken the head goes on without it. -/
def PySem.W.Fast.tw1554651291827086329 : Unit := ()
/-- The head would lay an equation by this name, for a constant of its own; nothing needs it, and it takes much room: with the name taken the head goes on without it. -/
def PySem.W.Fast.tw4271612664492963144 : Unit := ()
/-- The head would lay an equation by this name, for a constant of its own; nothing needs it, and it takes much room: with the name taken the head goes on without it. -/
def PySem.W.Fast.tw7362685367041731935 : Unit := ()
/-- The head would lay an equation by this name, for a constant of its own; nothing needs it, and it takes much room: with the name taken the head goes on without it. -/
def PySem.W.Fast.tw729219937061877244 : Unit := ()
/-- The head would lay an equation by this name, for a constant of its own; nothing needs it, and it takes much room: with the name taken the head goes on without it. -/
def PySem.W.Fast.tw105873197010823287 : Unit := ()
/-- The head would lay an equation by this name, for a constant of its own; nothing needs it, and it takes much room: with the name taken the head goes on without it. -/
def PySem.W.Fast.tw10215113972691840153 : Unit := ()
/-- The head would lay an equation by this name, for a constant of its own; nothing needs it, and it takes much room: with the name taken the head goes on without it. -/
def PySem.W.Fast.tw4586288439499762783 : Unit := ()
/-- The head would lay an equation by this name, for a constant of its own; nothing needs it, and it takes much room: with the name taken the head goes on without it. -/
def PySem.W.Fast.tw3551079522152530709 : Unit := ()
/-- The head would lay an equation by this name, for a constant of its own; nothing needs it, and it takes much room: with the name taken the head goes on without it. -/
def PySem.W.Fast.tw15120991378898355365 : Unit := ()
/-- The head would lay an equation by this name, for a constant of its own; nothing needs it, and it takes much room: with the name taken the head goes on without it. -/
def PySem.W.Fast.tw7867223271844904789 : Unit := ()
/-- The head would lay an equation by this name, for a constant of its own; nothing needs it, and it takes much room: with the name taken the head goes on without it. -/
def PySem.W.Fast.tw11440591834255622596 : Unit := ()
set_option maxRecDepth 100000
/-! THE HAND LAYER, for ints, bools, texts, own classes, LISTS and tuples (index, slices, in, append, pop ..), calls, loops. Paste it whole ahead of your own text; what your proof does not reach may be deleted. -/
namespace L2
open PySem PySem.Spec PyProof.Rows

/-- a key: an int or a str -/
abbrev Key := Sum Int Str
def keyIs : Key → Value → Bool
  | .inl k, v => Value.isInt k v
  | .inr x, v => Value.isStrOf x v
def keyH (w : World) : Key → Int
  | .inl k => hashInt k
  | .inr x => hashStr w x
theorem keyIs_shape : ∀ {k : Key} {v : Value}, keyIs k v = true → (∃ i t, k = Sum.inl i ∧ v = Value.int i t) ∨ (∃ x t, k = Sum.inr x ∧ v = Value.str x t)
  | .inl i, v, h => by
    obtain ⟨t, e⟩ := Value.isInt_shape (k := i) (v := v) h
    exact .inl ⟨i, t, rfl, e⟩
  | .inr x, v, h => by
    obtain ⟨t, e⟩ := Value.isStrOf_shape (x := x) (v := v) h
    exact .inr ⟨x, t, rfl, e⟩
theorem key_ll (a b : Int) : decide ((Sum.inl a : Key) = Sum.inl b) = (a == b) := by
  by_cases e : a = b
  · subst e; simp
  · have h : ¬ (Sum.inl a : Key) = Sum.inl b := fun q => e (Sum.inl.inj q)
    rw [decide_eq_false h]
    exact (beq_eq_false_iff_ne.mpr e).symm
theorem key_rr (a b : Str) : decide ((Sum.inr a : Key) = Sum.inr b) = decide (a = b) := by
  by_cases e : a = b
  · subst e; simp
  · have h : ¬ (Sum.inr a : Key) = Sum.inr b := fun q => e (Sum.inr.inj q)
    rw [decide_eq_false h, decide_eq_false e]
theorem key_lr (a : Int) (b : Str) : decide ((Sum.inl a : Key) = Sum.inr b) = false := decide_eq_false (fun q => nomatch q)
theorem key_rl (a : Str) (b : Int) : decide ((Sum.inr a : Key) = Sum.inl b) = false := decide_eq_false (fun q => nomatch q)

def mixKind (prog : Program) (w : World) : PySem.KeyKind prog w Key where
  is := keyIs
  hash := keyH w
  inj := fun v a b ha hb => by
    rcases keyIs_shape ha with ⟨i, t, rfl, rfl⟩ | ⟨x, t, rfl, rfl⟩
    · rcases keyIs_shape hb with ⟨j, u, rfl, e⟩ | ⟨y, u, rfl, e⟩
      · injection e with e1 _; rw [e1]
      · exact nomatch e
    · rcases keyIs_shape hb with ⟨j, u, rfl, e⟩ | ⟨y, u, rfl, e⟩
      · exact nomatch e
      · injection e with e1 _; rw [e1]
  byValue := fun k v h => by
    rcases keyIs_shape h with ⟨i, t, rfl, rfl⟩ | ⟨x, t, rfl, rfl⟩ <;> rfl
  pyHash := fun hv h => by
    rcases keyIs_shape hv with ⟨i, t, rfl, rfl⟩ | ⟨x, t, rfl, rfl⟩
    · exact wpAny_pyHash_int h
    · exact wpAny_pyHash_str h
  eqBool := fun hu hv h => by
    rcases keyIs_shape hu with ⟨i, t, rfl, rfl⟩ | ⟨x, t, rfl, rfl⟩
    · rcases keyIs_shape hv with ⟨j, u, rfl, rfl⟩ | ⟨y, u, rfl, rfl⟩
      · rw [key_ll] at h; exact wpAny_eqBool_int h
      · rw [key_lr] at h; exact SeqAt.EqAt.int_str i t y u _ _ _ _ h
    · rcases keyIs_shape hv with ⟨j, u, rfl, rfl⟩ | ⟨y, u, rfl, rfl⟩
      · rw [key_rl] at h; exact SeqAt.EqAt.str_int x t j u _ _ _ _ h
      · rw [key_rr] at h; exact wpAny_eqBool_str h
  «strs» := fun k x t v h => by
    rcases keyIs_shape h with ⟨i, u, rfl, e⟩ | ⟨y, u, rfl, e⟩
    · exact nomatch e
    · injection e with e1 _
      subst e1
      cases v <;> rfl

end L2

namespace L2
open PySem PySem.Spec PyProof.Rows

/-- a value, without the heap -/
inductive V where
  | non | bl (b : Bool) | int (i : Int) | str (x : Str) | byt (b : Array UInt8) | flt (b : UInt64) | ref (a : Addr) | ty (n : String)
  deriving DecidableEq

def RelV : V → Value → Prop
  | .non, u => u = Value.none
  | .bl b, u => u = Value.bool b
  | .int i, u => ∃ t, u = Value.int i t
  | .str x, u => ∃ t, u = Value.str x t
  | .byt b, u => ∃ t, u = Value.bytes b t
  | .flt b, u => ∃ t, u = Value.float b t
  | .ref a, u => u = Value.ref a
  | .ty n, u => u = Value.type n

abbrev Vals : List V → List Value → Prop := Paired RelV
theorem Vals.length {xs : List V} {us : List Value} (r : Vals xs us) : xs.length = us.length := Paired.length r
theorem Vals.get : ∀ {xs : List V} {us : List Value} {i : Nat} {x : V}, Vals xs us → xs[i]? = some x → ∃ u, us[i]? = some u ∧ RelV x u
  | _, _, _, _, .nil, e => by simp at e
  | _, _, 0, _, .cons r _, e => by simp at e; subst e; exact ⟨_, rfl, r⟩
  | _, _, i + 1, x, .cons _ t, e => by
    obtain ⟨u, h1, h2⟩ := Vals.get (i := i) (x := x) t (by simpa using e)
    exact ⟨u, by simpa using h1, h2⟩
theorem Vals.set {x : V} {u : Value} (r : RelV x u) : ∀ {xs : List V} {us : List Value} (i : Nat), Vals xs us → Vals (xs.set i x) (us.set i u)
  | _, _, _, .nil => .nil
  | _, _, 0, .cons _ t => .cons r t
  | _, _, i + 1, .cons q t => .cons q (Vals.set r i t)
theorem Vals.append : ∀ {xs ys : List V} {us ws : List Value}, Vals xs us → Vals ys ws → Vals (xs ++ ys) (us ++ ws)
  | _, _, _, _, .nil, s => s
  | _, _, _, _, .cons r t, s => .cons r (Vals.append t s)
theorem Vals.take : ∀ {xs : List V} {us : List Value} (n : Nat), Vals xs us → Vals (xs.take n) (us.take n)
  | _, _, 0, _ => .nil
  | _, _, _ + 1, .nil => .nil
  | _, _, n + 1, .cons r t => .cons r (Vals.take n t)
theorem Vals.drop : ∀ {xs : List V} {us : List Value} (n : Nat), Vals xs us → Vals (xs.drop n) (us.drop n)
  | _, _, 0, r => r
  | _, _, _ + 1, .nil => .nil
  | _, _, n + 1, .cons _ t => Vals.drop n t
def RelO : Option V → Option Value → Prop
  | some v, some u => RelV v u
  | none, none => True
  | _, _ => False
def KV {κ : Type} : List (κ × V) → List (κ × Value) → Prop := Paired fun (p : κ × V) (q : κ × Value) => p.1 = q.1 ∧ RelV p.2 q.2

/-- a key of a dict (00_mix): an int or a text -/
def kV : Key → V
  | .inl i => .int i
  | .inr x => .str x

/-- what stands at a tracked address -/
inductive HO where
  /-- a list -/
  | lst (xs : List V)
  /-- a tuple (never changes) -/
  | tup (xs : List V)
  /-- a dict whose keys are ints and texts; one whose keys are tuples of ints and texts (the empty one is both) -/
  | dK (kvs : List (Key × V)) | dT (kvs : List (List Key × V))
  /-- a set of ints: its members, its size -/
  | set (S : Int → Bool) (n : Nat)
  /-- an instance of the class at C, its dict at dx, its attributes -/
  | ins (C dx : Addr) (fs : List (Str × V))
  /-- the dict of the instance at x -/
  | own (x : Addr)
  /-- the dict of an exception -/
  | xd (fs : List (Str × V))
  /-- a bound method, f of x -/
  | met (f x : Addr)
  /-- a range object lo, lo + 1, .. below hi -/
  | rng (lo hi : Int)
  /-- a thing that is known to the object (the script; a dict while a loop walks it): read, never written while it is so -/
  | frz (o : Obj) (u : HO)
  /-- a code object's table -/
  | tbl (ps : Array Value)
  /-- any other thing, by what is true of its one object (a def of one's own: SetO a S n := HO.ext fun h => ..) -/
  | ext (φ : Heap → Prop)

abbrev Hp := Addr → Option HO
def upd (H : Hp) (a : Addr) (o : HO) : Hp := fun b => if b = a then some o else H b
theorem upd_same {H : Hp} {a : Addr} {o : HO} : upd H a o a = some o := by unfold upd; rw [if_pos rfl]
theorem upd_ne {H : Hp} {a b : Addr} {o : HO} (h : b ≠ a) : upd H a o b = H b := by unfold upd; rw [if_neg h]
theorem upd_upd {H : Hp} {a : Addr} {o u : HO} : upd (upd H a o) a u = upd H a u := by
  funext b; unfold upd; split <;> rfl
/-- two objects of different content stand apart -/
theorem ne_of {H : Hp} {a b : Addr} {o u : HO} (h : H a = some o) (h' : H b = some u) (d : o ≠ u) : a ≠ b := by
  intro e; subst e; rw [h] at h'; exact d (Option.some.inj h')
theorem ne_of_none {H : Hp} {a b : Addr} {o : HO} (h : H a = some o) (h' : H b = none) : a ≠ b := by
  intro e; subst e; rw [h] at h'; cases h'

section
variable (P : Program) (w : World)
def ObjOk (H : Hp) (h : Heap) (a : Addr) : HO → Prop
  | .lst xs => xs.length ≤ sizeLine ∧ ∃ (its : List Value) (n : Nat), Vals xs its ∧ h.get? a = some { cls := .type "list", data := .seq its.toArray n }
  | .tup xs => xs.length ≤ sizeLine ∧ ∃ its : List Value, Vals xs its ∧ IsTup h a its.toArray
  | .dK kvs => kvs.length ≤ sizeLine ∧ (a == sysModules) = false ∧ ∃ vs, KV kvs vs ∧ h.DictOf (mixKind P w) a vs
  | .dT kvs => kvs.length ≤ sizeLine ∧ (a == sysModules) = false ∧ ∃ xs : List (List Key × Addr × Value),
      Paired (fun (p : List Key × V) (q : List Key × Addr × Value) => p.1 = q.1 ∧ H q.2.1 = some (.tup (p.1.map kV)) ∧ RelV p.2 q.2.2) kvs xs ∧
      ∃ o es ep, h.get? a = some o ∧ o.ExactDict ∧ o.data = .dict es ep ∧ es.toList = xs.map (entryOfKey (tupleKind (mixKind P w))) ∧ (xs.map (·.1)).Nodup
  | .set S n => h.SetOf (intKind P w) a S n
  | .ins C dx fs => H dx = some (.own a) ∧ fs.length ≤ 1000 ∧ dx ≠ a ∧ h.get? a = some (PySem.W.instObj C dx) ∧
      ∃ mA, h.Ns1 dx mA ∧ (∀ f, RelO (fs.lookup f) (mA f)) ∧ PySem.Within mA (fs.map (·.1))
  | .own _ => ∃ o, h.get? a = some o
  | .xd fs => ∃ mA, h.Ns1 a mA ∧ ∀ f, RelO (fs.lookup f) (mA f)
  | .rng lo hi => ∃ t u v, h.get? a = some { cls := .type "range", data := .fields #[.int lo t, .int hi u, .int 1 v] }
  | .frz o u => h.get? a = some o ∧ ObjOk H h a u
  | .tbl ps => h.get? a = some { cls := .none, data := .fields ps }
  | .met f x => h.get? a = some (PySem.W.methodObj (.ref f) (.ref x))
  | .ext φ => φ h ∧ (∃ o, h.get? a = some o) ∧ ∀ h1 h2 : Heap, φ h1 → (∀ o, h1.get? a = some o → h2.get? a = some o) → φ h2
/-- the abstract heap is held -/
def HOk (H : Hp) (h : Heap) : Prop := ∀ a o, H a = some o → ObjOk P w H h a o
end

section
variable {P : Program} {w : World} {H H' : Hp} {h h' : Heap} {a : Addr} {o : HO}
theorem ObjOk.lt (x : ObjOk P w H h a o) : a < h.objs.size := by
  cases o with
  | lst xs => obtain ⟨_, _, _, _, e⟩ := x; exact Heap.lt_size e
  | tup xs => obtain ⟨_, _, _, p⟩ := x; exact p.lt
  | dK kvs => obtain ⟨_, _, _, _, o, _, _, e, _⟩ := x; exact Heap.lt_size e
  | dT kvs => obtain ⟨_, _, _, _, o, _, _, e, _⟩ := x; exact Heap.lt_size e
  | set S n => obtain ⟨o, _, _, _, e, _⟩ := x; exact Heap.lt_size e
  | ins C dx fs => obtain ⟨_, _, _, e, _⟩ := x; exact Heap.lt_size e
  | own y => obtain ⟨_, e⟩ := x; exact Heap.lt_size e
  | xd fs => obtain ⟨_, ⟨_, _, _, e, _⟩, _⟩ := x; exact Heap.lt_size e
  | rng lo hi => obtain ⟨_, _, _, e⟩ := x; exact Heap.lt_size e
  | frz ob u => obtain ⟨e, _⟩ := x; exact Heap.lt_size e
  | tbl ps => exact Heap.lt_size (show h.get? a = some _ from x)
  | met f y => exact Heap.lt_size (show h.get? a = some _ from x)
  | ext φ => obtain ⟨_, ⟨_, e⟩, _⟩ := x; exact Heap.lt_size e
theorem Paired.mapP {α β : Type} {F G : α → β → Prop} : ∀ {l₁ : List α} {l₂ : List β}, Paired F l₁ l₂ → (∀ a b, F a b → G a b) → Paired G l₁ l₂
  | _, _, .nil, _ => .nil
  | _, _, .cons r t, f => .cons (f _ _ r) (Paired.mapP t f)
/-- what an object's description leans on: its own object, its own dict, the tuples -/
theorem ObjOk.stay (x : ObjOk P w H h a o) (k : ∀ b u, (b = a ∨ H b = some (.own a)) → h.get? b = some u → h'.get? b = some u)
    (ho : ∀ b, H b = some (.own a) → H' b = some (.own a)) (ht : ∀ b xs, H b = some (.tup xs) → H' b = some (.tup xs)) : ObjOk P w H' h' a o := by
  induction o with
  | lst xs => obtain ⟨z, its, n, r, e⟩ := x; exact ⟨z, its, n, r, k _ _ (.inl rfl) e⟩
  | tup xs => obtain ⟨z, its, r, ob, e, c⟩ := x; exact ⟨z, its, r, ob, k _ _ (.inl rfl) e, c⟩
  | dK kvs => obtain ⟨z, y, vs, r, ob, es, ep, e, c⟩ := x; exact ⟨z, y, vs, r, ob, es, ep, k _ _ (.inl rfl) e, c⟩
  | dT kvs =>
    obtain ⟨z, y, xs, r, ob, es, ep, e, c⟩ := x
    exact ⟨z, y, xs, Paired.mapP r fun p q z => ⟨z.1, ht _ _ z.2.1, z.2.2⟩, ob, es, ep, k _ _ (.inl rfl) e, c⟩
  | set S n => obtain ⟨ob, es, ep, t, e, c⟩ := x; exact ⟨ob, es, ep, t, k _ _ (.inl rfl) e, c⟩
  | ins C dx fs =>
    obtain ⟨d, z, ne, e, mA, ⟨od, es, ep, e2, c⟩, r⟩ := x
    exact ⟨ho _ d, z, ne, k _ _ (.inl rfl) e, mA, ⟨od, es, ep, k _ _ (.inr d) e2, c⟩, r⟩
  | own y => obtain ⟨ob, e⟩ := x; exact ⟨ob, k _ _ (.inl rfl) e⟩
  | xd fs => obtain ⟨mA, ⟨od, es, ep, e, c⟩, r⟩ := x; exact ⟨mA, ⟨od, es, ep, k _ _ (.inl rfl) e, c⟩, r⟩
  | rng lo hi => obtain ⟨t, u, v, e⟩ := x; exact ⟨t, u, v, k _ _ (.inl rfl) e⟩
  | frz ob u ih => obtain ⟨e, q⟩ := x; exact ⟨k _ _ (.inl rfl) e, ih q⟩
  | tbl ps =>
    have e : h.get? a = some { cls := .none, data := .fields ps } := x
    show h'.get? a = some { cls := .none, data := .fields ps }
    exact k a _ (.inl rfl) e
  | met f y =>
    have e : h.get? a = some (PySem.W.methodObj (.ref f) (.ref y)) := x
    show h'.get? a = some (PySem.W.methodObj (.ref f) (.ref y))
    exact k a _ (.inl rfl) e
  | ext φ => obtain ⟨p, ⟨o, e⟩, st⟩ := x; exact ⟨st _ _ p fun o q => k _ _ (.inl rfl) q, ⟨o, k _ _ (.inl rfl) e⟩, st⟩
theorem HOk.lt (x : HOk P w H h) (e : H a = some o) : a < h.objs.size := (x a o e).lt
theorem HOk.fresh (x : HOk P w H h) (e : h.objs.size ≤ a) : H a = none := by
  cases q : H a with
  | none => rfl
  | some u => exact absurd (Nat.lt_of_lt_of_le (x.lt q) e) (Nat.lt_irrefl _)
/-- every object of the heap is kept -/
theorem HOk.kept (x : HOk P w H h) (k : ∀ b u, h.get? b = some u → h'.get? b = some u) : HOk P w H h' := fun a o e =>
  (x a o e).stay (fun b u _ q => k b u q) (fun _ q => q) fun _ _ q => q
/-- a new object is laid and tracked -/
theorem HOk.laid (x : HOk P w H h) (k : ∀ b u, h.get? b = some u → h'.get? b = some u) (hp : h.objs.size ≤ a) (new : ObjOk P w (upd H a o) h' a o) : HOk P w (upd H a o) h' := fun b u e => by
  have hn := x.fresh hp
  by_cases hb : b = a
  · subst hb; rw [upd_same] at e; cases e; exact new
  · rw [upd_ne hb] at e
    exact (x b u e).stay (fun c v _ q => k c v q) (fun c q => by rw [upd_ne (ne_of_none q hn)]; exact q) fun c xs q => by rw [upd_ne (ne_of_none q hn)]; exact q
end

/-- what may be read as u: it is u, or a known u -/
def Rd (H : Hp) (a : Addr) (u : HO) : Prop := H a = some u ∨ ∃ o, H a = some (.frz o u)
theorem Rd.of {H : Hp} {a : Addr} {u : HO} (h : H a = some u) : Rd H a u := .inl h
theorem Rd.ok {P : Program} {w : World} {H : Hp} {h : Heap} {a : Addr} {u : HO} (r : Rd H a u) (x : HOk P w H h) : ObjOk P w H h a u := by
  rcases r with r | ⟨o, r⟩
  · exact x a u r
  · obtain ⟨_, q⟩ := x a _ r
    exact q
/-- what may be written -/
def Mut : Option HO → Prop
  | some (.lst _) => True
  | some (.dK _) => True
  | some (.dT _) => True
  | some (.set _ _) => True
  | some (.ins _ _ _) => True
  | some (.ext _) => True
  | _ => False
section
variable {P : Program} {w : World} {H : Hp} {h h' : Heap} {x e : Addr} {o' : HO}
/-- the object at e is changed: x itself, or the dict of the instance x -/
theorem HOk.write (ok : HOk P w H h) (mu : Mut (H x)) (he : e = x ∨ H e = some (.own x)) (k : ∀ b u, b ≠ e → h.get? b = some u → h'.get? b = some u) (heo : ∃ u, h'.get? e = some u)
    (new : ObjOk P w (upd H x o') h' x o') : HOk P w (upd H x o') h' := fun b u q => by
  have nown : ∀ c y, H c = some (.own y) → c ≠ x := fun c y r z => by subst z; rw [r] at mu; exact mu
  have ntup : ∀ c xs, H c = some (.tup xs) → c ≠ x := fun c xs r z => by subst z; rw [r] at mu; exact mu
  by_cases hb : b = x
  · subst hb; rw [upd_same] at q; cases q; exact new
  · rw [upd_ne hb] at q
    by_cases hbe : b = e
    · have q' : H b = some (.own x) := by
        rcases he with z | z
        · exact absurd (hbe.trans z) hb
        · rw [hbe]; exact z
      rw [q] at q'; cases q'
      obtain ⟨v, hv⟩ := heo
      exact ⟨v, by rw [hbe]; exact hv⟩
    · refine (ok b u q).stay (fun c v hc r => k c v ?_ r) (fun c r => by rw [upd_ne (nown c b r)]; exact r) fun c xs r => by rw [upd_ne (ntup c xs r)]; exact r
      rcases hc with rfl | hc
      · exact hbe
      · rintro rfl
        rcases he with z | z
        · exact nown c b hc z
        · rw [hc] at z; cases z; exact hb rfl
end

/-! ### kept unless tracked; of the frames at fs (the callers') the slots may change (an exception that passes writes there); of the records at ex (iterators) nothing is said -/
structure Un (fs ex : List Addr) (H H' : Hp) (h h' : Heap) : Prop where
  keep : ∀ b o, h.get? b = some o → H b = none → b ∉ fs → b ∉ ex → h'.get? b = some o
  slot : ∀ b o, h.get? b = some o → H b = none → b ∈ fs → b ∉ ex → ∃ sl, h'.get? b = some { o with slots := sl }
  free : ∀ b o, h.get? b = some o → H b = none → b ∉ ex → H' b = none
  there : ∀ b o, h.get? b = some o → b ∉ ex → ∃ o', h'.get? b = some o'
  tups : ∀ b xs, H b = some (.tup xs) → H' b = some (.tup xs)
  frzs : ∀ b o u, H b = some (.frz o u) → H' b = some (.frz o u)
  tbls : ∀ b ps, H b = some (.tbl ps) → ∃ more, H' b = some (.tbl (ps ++ more))
section
variable {fs fs' ex ex' : List Addr} {H H1 H2 : Hp} {h h1 h2 h' : Heap} {a x e : Addr} {o : HO}
theorem Un.any (u : Un fs ex H H1 h h1) {b : Addr} {ob : Obj} (q : h.get? b = some ob) (n : H b = none) (hx : b ∉ ex) : ∃ sl, h1.get? b = some { ob with slots := sl } := by
  by_cases hb : b ∈ fs
  · exact u.slot b ob q n hb hx
  · exact ⟨ob.slots, u.keep b ob q n hb hx⟩
theorem Un.trans (a : Un fs ex H H1 h h1) (b : Un fs ex H1 H2 h1 h2) : Un fs ex H H2 h h2 where
  keep := fun c ob q n hc hx => b.keep c ob (a.keep c ob q n hc hx) (a.free c ob q n hx) hc hx
  slot := fun c ob q n hc hx => by
    obtain ⟨sl, e1⟩ := a.slot c ob q n hc hx
    obtain ⟨sl', e2⟩ := b.slot c _ e1 (a.free c ob q n hx) hc hx
    exact ⟨sl', e2⟩
  free := fun c ob q n hx => by
    obtain ⟨o', e1⟩ := a.there c ob q hx
    exact b.free c o' e1 (a.free c ob q n hx) hx
  there := fun c ob q hx => by
    obtain ⟨o', e1⟩ := a.there c ob q hx
    exact b.there c o' e1 hx
  tups := fun c xs q => b.tups c xs (a.tups c xs q)
  frzs := fun c ob xs q => b.frzs c ob xs (a.frzs c ob xs q)
  tbls := fun c ps q => by
    obtain ⟨m1, e1⟩ := a.tbls c ps q
    obtain ⟨m2, e2⟩ := b.tbls c _ e1
    exact ⟨m1 ++ m2, by rw [e2, Array.append_assoc]⟩
theorem Un.kept (k : ∀ b u, h.get? b = some u → h'.get? b = some u) : Un fs ex H H h h' :=
  ⟨fun b ob q _ _ _ => k b ob q, fun b ob q _ _ _ => ⟨ob.slots, k b ob q⟩, fun _ _ _ n _ => n, fun b ob q _ => ⟨ob, k b ob q⟩, fun _ _ q => q, fun _ _ _ q => q, fun _ ps q => ⟨#[], by rw [q]; simp⟩⟩
theorem Un.refl : Un fs ex H H h h := Un.kept fun _ _ q => q
theorem Un.laid (k : ∀ b u, h.get? b = some u → h'.get? b = some u) (hp : h.objs.size ≤ a) (hn : H a = none) : Un fs ex H (upd H a o) h h' where
  keep := fun b u q _ _ _ => k b u q
  slot := fun b u q _ _ _ => ⟨u.slots, k b u q⟩
  free := fun b u q n _ => by rw [upd_ne (Nat.ne_of_lt (Nat.lt_of_lt_of_le (Heap.lt_size q) hp))]; exact n
  there := fun b u q _ => ⟨u, k b u q⟩
  tups := fun b xs q => by rw [upd_ne (ne_of_none q hn)]; exact q
  frzs := fun b u xs q => by rw [upd_ne (ne_of_none q hn)]; exact q
  tbls := fun b ps q => ⟨#[], by rw [upd_ne (ne_of_none q hn), q]; simp⟩
theorem Un.write (mu : Mut (H x)) (he : e = x ∨ H e = some (.own x)) (k : ∀ b u, b ≠ e → h.get? b = some u → h'.get? b = some u) (heo : ∃ u, h'.get? e = some u) : Un fs ex H (upd H x o) h h' := by
  have hx : ∀ b, H b = none → b ≠ x := fun b n z => by subst z; rw [n] at mu; exact mu
  have hb : ∀ b, H b = none → b ≠ e := fun b n z => by
    subst z
    rcases he with r | r
    · exact hx b n r
    · rw [n] at r; cases r
  have hm : ∀ b u, H b = some u → ¬ Mut (some u) → b ≠ x := fun b u q nm z => by subst z; rw [q] at mu; exact nm mu
  refine ⟨fun b u q n _ _ => k b u (hb b n) q, fun b u q n _ _ => ⟨u.slots, k b u (hb b n) q⟩, fun b u q n _ => by rw [upd_ne (hx b n)]; exact n, fun b u q _ => ?_,
    fun b xs q => by rw [upd_ne (hm b _ q fun z => z)]; exact q, fun b u xs q => by rw [upd_ne (hm b _ q fun z => z)]; exact q, fun b ps q => ⟨#[], by rw [upd_ne (hm b _ q fun z => z), q]; simp⟩⟩
  by_cases hbe : b = e
  · subst hbe; exact heo
  · exact ⟨u, k b u hbe q⟩
theorem Un.mono (u : Un fs ex H H1 h h1) (hs : ∀ b ∈ fs, b ∈ fs') (hx : ∀ b ∈ ex, b ∈ ex') : Un fs' ex' H H1 h h1 :=
  ⟨fun b ob q n hb he => u.keep b ob q n (fun z => hb (hs b z)) fun z => he (hx b z), fun _ _ q n _ he => u.any q n fun z => he (hx _ z), fun b ob q n he => u.free b ob q n fun z => he (hx b z), fun b ob q he => u.there b ob q fun z => he (hx b z), u.tups, u.frzs, u.tbls⟩
end

/-! ### the heap without what is tracked -/
def trk (h : Heap) (H : Hp) : List Addr := (List.range h.objs.size).filter fun a => (H a).isSome
def hidT (h : Heap) (H : Hp) : Heap := PySem.W.hideAll h (trk h H)
theorem hidT_size (h : Heap) (H : Hp) : (hidT h H).objs.size = h.objs.size := PySem.W.hideAll_size _ _
theorem hidT_get {h : Heap} {H : Hp} {b : Addr} {o : Obj} (e : h.get? b = some o) (n : H b = none) : (hidT h H).get? b = some o :=
  PySem.W.hideAll_get _ e fun hm => by
    have q : (H b).isSome = true := (List.mem_filter.mp hm).2
    rw [n] at q; simp at q
theorem of_hidT {h : Heap} {H : Hp} {b : Addr} {o : Obj} (e : (hidT h H).get? b = some o) : h.get? b = some o ∧ H b = none := by
  have e' : h.get? b = some o := PySem.W.of_hideAll (trk h H) e
  refine ⟨e', ?_⟩
  cases q : H b with
  | none => rfl
  | some x =>
    have hm : b ∈ trk h H := List.mem_filter.mpr ⟨List.mem_range.mpr (Heap.lt_size e'), by simp [q]⟩
    have z : (hidT h H).get? b = none := PySem.W.hideAll_none (trk h H) hm
    rw [z] at e; cases e

/-! ### OpenK's ledger, filled with every new object but one -/
def allNews (g h : Heap) (L : Addr) : List (Addr × Obj) := (List.range h.objs.size).filterMap fun a => if a = L ∨ (g.get? a).isSome = true then none else (h.get? a).map fun o => (a, o)
def rest (g h : Heap) (L d : Addr) : List (Addr × Obj) := (allNews g h L).filter fun p => decide (p.1 ≠ d)
end L2

namespace L2
open PySem PySem.Spec PyProof.Rows

/-- the module's facts, over the base: the heap at the law's entry without what is tracked there -/
structure Mod (K : PySem.W.Frag) (mg : Str → Option Value) (base : Heap) : Prop where
  kin : K.In base
  glob : base.Ns mainGlobals mg
  blt : ∃ mb, base.Ns builtinsNs mb ∧ ∀ x : Str, x ≠ "__name__" → mb x = bootBuiltins x
  nolimit : base.NoLimit

/-- the context: a def's body (or a comprehension's block) running. base: fixed through the whole law; s₀, H₀: the entry; outer: the frames whose slots others may change (a def's callers); stack: all frames that run;
   ex: iterators that were made ahead of the entry and are walked here (a comprehension's); fn: the names whose cells were made at the entry (a def: all; a comprehension's block: its own); calm: not within an except suite; pn: pins that every state bears; xe: what is wanted of an exception that leaves the code -/
structure Cx where
  prog : Program
  w : World
  K : PySem.W.Frag
  mg : Str → Option Value
  base : Heap
  A : Around
  N : List Str
  s₀ : Shared
  H₀ : Hp
  env : Env
  outer : List Env
  stack : List Env
  ex : List Addr
  fn : Str → Bool
  calm : Bool
  pn : List (Addr × Obj)
  xe : Value → Shared → Prop
/-- the callers' frames -/
def frs (l : List Env) : List Addr := l.filterMap (·.frame)
abbrev Cx.fs (X : Cx) : List Addr := frs X.outer

def Vis (sc : Scope) (x : Str) : Prop := sc.names.lookup x = some .local ∨ sc.names.lookup x = some .cell ∨ sc.names.lookup x = some .free
def Loc (sc : Scope) (x : Str) : Prop := sc.names.lookup x = some .local ∨ sc.names.lookup x = some .cell
def Look (env : Env) (h : Heap) (m : Str → Option Value) (x : Str) (u : Value) : Prop :=
  (env.kindOf x = some .local ∧ m x = some u) ∨ ((env.kindOf x = some .cell ∨ env.kindOf x = some .free) ∧ ∃ c, env.cells.lookup x = some c ∧ h.IsCell c (some u))

structure Cx.Ok (X : Cx) : Prop where
  mod : Mod X.K X.mg X.base
  kind : X.env.scope.kind = .function
  glob : X.env.globals = mainGlobals
  blt : X.env.builtins = builtinsNs
  above : X.s₀.heap.objs.size ≤ X.env.locals
  inj : ∀ x y c, X.env.cells.lookup x = some c → X.env.cells.lookup y = some c → x = y
  has : ∀ x, (X.env.kindOf x = some .cell ∨ X.env.kindOf x = some .free) → ∃ c, X.env.cells.lookup x = some c
  cab : ∀ x c, X.fn x = true → X.env.cells.lookup x = some c → X.s₀.heap.objs.size ≤ c
  hd : X.calm = true → X.A.handled = none
  frames : X.A.frames = some X.stack
  stk : X.stack = X.outer ∨ (X.stack = X.env :: X.outer ∧ X.env.frame = some X.env.locals)
  exf : ∀ b ∈ X.ex, b ≠ X.env.locals ∧ ∀ x c, X.env.cells.lookup x = some c → c ≠ b
  bs : ∀ b o, X.base.get? b = some o → X.s₀.heap.get? b = some o ∧ X.H₀ b = none
  bsz : X.base.objs.size ≤ X.s₀.heap.objs.size
  noex : ∀ b o, X.base.get? b = some o → b ∉ X.ex
  exfs : ∀ b ∈ X.ex, b ∉ X.fs
  funs : X.s₀.heap.FunFrames X.base X.outer
  frf : ∀ b ∈ X.fs, X.H₀ b = none

structure Inv (X : Cx) (pins : List (Addr × Obj)) (σ : List (Option V)) (H : Hp) (s : Shared) : Prop where
  ok : X.Ok
  os : s.os = X.s₀.os
  bare : AllBare s.gens
  base : Un X.fs X.ex X.H₀ H X.s₀.heap s.heap
  loc : ∃ m, s.heap.Ns X.env.locals m ∧ ∀ (i : Nat) (x : Str) (v : V), X.N[i]? = some x → σ[i]? = some (some v) → Vis X.env.scope x → ∃ u, RelV v u ∧ Look X.env s.heap m x u
  cell : ∀ x c, X.env.cells.lookup x = some c → ∃ v, s.heap.IsCell c v
  free : H X.env.locals = none
  freeC : ∀ x c, X.env.cells.lookup x = some c → H c = none
  pin : ∀ p ∈ X.pn ++ pins, s.heap.get? p.1 = some p.2 ∧ H p.1 = none ∧ p.1 ≠ X.env.locals ∧ p.1 ∉ X.fs ∧ ∀ v, p.2.data ≠ .cell v
  hok : HOk X.prog X.w H s.heap
  len : σ.length = X.N.length

section
variable {X : Cx} {pins : List (Addr × Obj)} {σ : List (Option V)} {H H' : Hp} {s : Shared} {h' : Heap}

theorem Cx.Ok.nofr (ok : X.Ok) {b : Addr} {o : Obj} (e : X.base.get? b = some o) : b ∉ X.fs := fun hb => by
  have := (ok.funs.mem hb).1
  rw [e] at this; cases this
theorem Inv.bs (I : Inv X pins σ H s) : ∀ b o, X.base.get? b = some o → s.heap.get? b = some o ∧ H b = none := fun b o e =>
  ⟨I.base.keep b o (I.ok.bs b o e).1 (I.ok.bs b o e).2 (I.ok.nofr e) (I.ok.noex b o e), I.base.free b o (I.ok.bs b o e).1 (I.ok.bs b o e).2 (I.ok.noex b o e)⟩
theorem Inv.bk (I : Inv X pins σ H s) : ∀ b o, X.base.get? b = some o → s.heap.get? b = some o := fun b o e => (I.bs b o e).1
theorem Inv.mod (I : Inv X pins σ H s) : Mod X.K X.mg X.base := I.ok.mod
theorem Inv.kIn (I : Inv X pins σ H s) : X.K.In s.heap := I.ok.mod.kin.keeps I.bk
theorem Inv.nolimit (I : Inv X pins σ H s) : s.heap.NoLimit := I.ok.mod.nolimit.keeps I.bk
/-- the frame over the base: for OpenK's rules (K.In X.base is I.mod.kin) -/
theorem Inv.fr (I : Inv X pins σ H s) : ∃ m, Fr X.base X.env.locals s.heap m :=
  let ⟨m, hn, _⟩ := I.loc
  ⟨m, hn, I.bk, Nat.le_trans I.ok.bsz I.ok.above⟩
theorem Inv.lt (I : Inv X pins σ H s) : X.env.locals < s.heap.objs.size := let ⟨_, hn, _⟩ := I.loc; hn.lt
theorem Inv.sz (I : Inv X pins σ H s) : X.s₀.heap.objs.size ≤ s.heap.objs.size := Nat.le_trans I.ok.above (Nat.le_of_lt I.lt)
theorem Inv.nofs (I : Inv X pins σ H s) {a : Addr} (h : s.heap.objs.size ≤ a) : a ∉ X.fs := fun hb => by
  obtain ⟨_, o, ho, _⟩ := I.ok.funs.mem hb
  exact absurd (Nat.lt_of_lt_of_le (Heap.lt_size ho) (Nat.le_trans I.sz h)) (Nat.lt_irrefl _)
theorem Inv.cne (I : Inv X pins σ H s) : ∀ x c, X.env.cells.lookup x = some c → c ≠ X.env.locals := fun x c e z => by
  obtain ⟨v, o, ho, hd⟩ := I.cell x c e
  obtain ⟨m, ⟨o', es, ep, ho', hd', _⟩, _⟩ := I.loc
  rw [z, ho'] at ho; cases ho; rw [hd'] at hd; cases hd
theorem Inv.funs (I : Inv X pins σ H s) : s.heap.FunFrames X.base X.outer := by
  have all : ∀ (l : List Env), (∀ b ∈ frs l, b ∈ X.fs) → X.s₀.heap.FunFrames X.base l → s.heap.FunFrames X.base l := by
    intro l
    induction l with
    | nil => intro _ _; trivial
    | cons env r ih =>
      intro hs hl
      obtain ⟨hk, ⟨L, o, hf, hn, ho, hd⟩, hr⟩ := hl
      have hL : L ∈ X.fs := hs L (by unfold frs; rw [List.filterMap_cons, hf]; exact List.mem_cons_self)
      obtain ⟨sl, e⟩ := I.base.slot L o ho (I.ok.frf L hL) hL fun z => I.ok.exfs L z hL
      exact ⟨hk, ⟨L, _, hf, hn, e, hd⟩, ih (fun b hb => hs b (by unfold frs; rw [List.filterMap_cons, hf]; exact List.mem_cons_of_mem _ hb)) hr⟩
  exact all X.outer (fun _ hb => hb) I.ok.funs

/-- the frames that run, for a call -/
theorem Inv.stack (I : Inv X pins σ H s) : s.heap.FunFrames X.base X.stack := by
  rcases I.ok.stk with e | ⟨e, hf⟩
  · rw [e]; exact I.funs
  · rw [e]
    obtain ⟨m, hn, _⟩ := I.loc
    refine .cons (by rw [I.ok.kind]; decide) hf hn ?_ I.funs
    exact Heap.get?_none_of_le (Nat.le_trans I.ok.bsz I.ok.above)
theorem Inv.stkSub (I : Inv X pins σ H s) : ∀ b ∈ frs X.stack, b ∈ X.env.locals :: X.fs := fun b hb => by
  rcases I.ok.stk with e | ⟨e, hf⟩
  · rw [e] at hb; exact List.mem_cons_of_mem _ hb
  · rw [e] at hb
    unfold frs at hb
    rw [List.filterMap_cons, hf] at hb
    exact hb
theorem Inv.stkFree (I : Inv X pins σ H s) : ∀ b ∈ frs X.stack, H b = none := fun b hb => by
  rcases List.mem_cons.mp (I.stkSub b hb) with e | hb
  · rw [e]; exact I.free
  · obtain ⟨_, o, ho, _⟩ := I.ok.funs.mem hb
    exact I.base.free b o ho (I.ok.frf b hb) fun z => I.ok.exfs b z hb

/-- THE STEP: the untracked objects but the frame and the records at ch are kept (the callers' frames up to slots), the frame's map is kept, the new abstract heap is held -/
theorem Inv.step {g' : Array GenState} {t' : Nat} {d' : Drawn} {ch : List Addr} (I : Inv X pins σ H s)
    (hch : ∀ b ∈ ch, (b ∈ X.ex ∨ X.s₀.heap.objs.size ≤ b) ∧ b ≠ X.env.locals ∧ (∀ x c, X.env.cells.lookup x = some c → c ≠ b) ∧ ∀ p ∈ X.pn ++ pins, p.1 ≠ b)
    (keep : ∀ b o, b ≠ X.env.locals → b ∉ X.fs → b ∉ ch → s.heap.get? b = some o → H b = none → h'.get? b = some o)
    (slot : ∀ b o, b ≠ X.env.locals → b ∈ X.fs → b ∉ ch → s.heap.get? b = some o → H b = none → ∃ sl, h'.get? b = some { o with slots := sl }) (free : ∀ b o, b ∉ ch → s.heap.get? b = some o → H b = none → H' b = none)
    (there : ∀ b o, b ∉ ch → s.heap.get? b = some o → ∃ o', h'.get? b = some o')
    (tups : ∀ b xs, H b = some (.tup xs) → H' b = some (.tup xs)) (frzs : ∀ b o u, H b = some (.frz o u) → H' b = some (.frz o u)) (tbls : ∀ b ps, H b = some (.tbl ps) → ∃ more, H' b = some (.tbl (ps ++ more)))
    (ns : ∀ m, s.heap.Ns X.env.locals m → h'.Ns X.env.locals m) (hok : HOk X.prog X.w H' h') (hg : AllBare g') :
    Inv X pins σ H' { s with heap := h', gens := g', drawn := d', toks := t' } := by
  have neL : ∀ b o, X.s₀.heap.get? b = some o → b ≠ X.env.locals := fun b o e => Nat.ne_of_lt (Nat.lt_of_lt_of_le (Heap.lt_size e) I.ok.above)
  have neC : ∀ b o, X.s₀.heap.get? b = some o → b ∉ X.ex → b ∉ ch := fun b o e hx hb => by
    rcases (hch b hb).1 with z | z
    · exact hx z
    · exact absurd (Nat.lt_of_lt_of_le (Heap.lt_size e) z) (Nat.lt_irrefl _)
  have cellK : ∀ x c, X.env.cells.lookup x = some c → ∀ v, s.heap.IsCell c v → h'.IsCell c v := fun x c e v ⟨o, ho, hd⟩ => by
    have nch : c ∉ ch := fun z => (hch c z).2.2.1 x c e rfl
    by_cases hc : c ∈ X.fs
    · obtain ⟨sl, q⟩ := slot c o (I.cne x c e) hc nch ho (I.freeC x c e)
      exact ⟨_, q, hd⟩
    · exact ⟨o, keep c o (I.cne x c e) hc nch ho (I.freeC x c e), hd⟩
  refine ⟨I.ok, I.os, hg, ⟨fun b o e n hb hx => ?_, fun b o e n hb hx => ?_, fun b o e n hx => ?_, fun b o e hx => ?_, fun b xs e => tups b xs (I.base.tups b xs e), fun b o xs e => frzs b o xs (I.base.frzs b o xs e), fun b ps e => ?_⟩, ?_, fun x c e => ?_, ?_, fun x c e => ?_, fun p hp => ?_, hok, I.len⟩
  · exact keep b o (neL b o e) hb (neC b o e hx) (I.base.keep b o e n hb hx) (I.base.free b o e n hx)
  · obtain ⟨sl, e1⟩ := I.base.slot b o e n hb hx
    obtain ⟨sl', e2⟩ := slot b _ (neL b o e) hb (neC b o e hx) e1 (I.base.free b o e n hx)
    exact ⟨sl', e2⟩
  · obtain ⟨o', e1⟩ := I.base.there b o e hx
    exact free b o' (neC b o e hx) e1 (I.base.free b o e n hx)
  · obtain ⟨o', e1⟩ := I.base.there b o e hx
    exact there b o' (neC b o e hx) e1
  · obtain ⟨m1, e1⟩ := I.base.tbls b ps e
    obtain ⟨m2, e2⟩ := tbls b _ e1
    exact ⟨m1 ++ m2, by rw [e2, Array.append_assoc]⟩
  · obtain ⟨m, hn, hl⟩ := I.loc
    refine ⟨m, ns m hn, fun i x v e1 e2 e3 => ?_⟩
    obtain ⟨u, r, l⟩ := hl i x v e1 e2 e3
    refine ⟨u, r, ?_⟩
    rcases l with l | ⟨k, c, e, z⟩
    · exact .inl l
    · exact .inr ⟨k, c, e, cellK x c e _ z⟩
  · obtain ⟨v, z⟩ := I.cell x c e
    exact ⟨v, cellK x c e v z⟩
  · obtain ⟨m, ⟨o, _, _, ho, _⟩, _⟩ := I.loc
    exact free _ o (fun z => (hch _ z).2.1 rfl) ho I.free
  · obtain ⟨v, o, ho, hd⟩ := I.cell x c e
    exact free c o (fun z => (hch c z).2.2.1 x c e rfl) ho (I.freeC x c e)
  · obtain ⟨e, n, ne, nf, d⟩ := I.pin p hp
    have nch : p.1 ∉ ch := fun z => (hch p.1 z).2.2.2 p hp rfl
    exact ⟨keep p.1 p.2 ne nf nch e n, free p.1 p.2 nch e n, ne, nf, d⟩
/-- .. where the frame's own object is kept too -/
theorem Inv.un {t' : Nat} (I : Inv X pins σ H s) (u : Un X.fs [] H H' s.heap h') (hok : HOk X.prog X.w H' h') : Inv X pins σ H' { s with heap := h', toks := t' } := by
  obtain ⟨m, ⟨o, es, ep, ho, r⟩, _⟩ := id I.loc
  obtain ⟨sl, hL⟩ := u.any ho I.free (by simp)
  exact I.step (g' := s.gens) (d' := s.drawn) (ch := []) (fun _ z => nomatch z) (fun b o _ hb _ e n => u.keep b o e n hb (by simp)) (fun b o _ hb _ e n => u.slot b o e n hb (by simp)) (fun b o _ e n => u.free b o e n (by simp)) (fun b o _ e => u.there b o e (by simp)) u.tups u.frzs u.tbls (fun m' hm => by
    obtain ⟨o', es', ep', ho', r'⟩ := hm
    rw [ho] at ho'; cases ho'
    exact ⟨_, es', ep', hL, r'⟩) hok I.bare
/-- behind a call (or a comprehension's block): the slots of this frame may have changed too, the records at ch may have turned -/
theorem Inv.call {g' : Array GenState} {t' : Nat} {d' : Drawn} {ch : List Addr} (I : Inv X pins σ H s) (u : Un (frs X.stack) ch H H' s.heap h') (hok : HOk X.prog X.w H' h') (hg : AllBare g')
    (hch : ∀ b ∈ ch, (b ∈ X.ex ∨ X.s₀.heap.objs.size ≤ b) ∧ b ≠ X.env.locals ∧ (∀ x c, X.env.cells.lookup x = some c → c ≠ b) ∧ ∀ p ∈ X.pn ++ pins, p.1 ≠ b) :
    Inv X pins σ H' { s with heap := h', gens := g', drawn := d', toks := t' } := by
  obtain ⟨m, ⟨o, es, ep, ho, r⟩, _⟩ := id I.loc
  obtain ⟨sl, hL⟩ := u.any ho I.free fun z => (hch _ z).2.1 rfl
  exact I.step (ch := ch) hch (fun b o hL hb hc e n => u.keep b o e n (fun z => (List.mem_cons.mp (I.stkSub b z)).elim hL hb) hc) (fun b o _ _ hc e n => u.any e n hc) (fun b o hc e n => u.free b o e n hc) (fun b o hc e => u.there b o e hc) u.tups u.frzs u.tbls (fun m' hm => by
    obtain ⟨o', es', ep', ho', r'⟩ := hm
    rw [ho] at ho'; cases ho'
    exact ⟨_, es', ep', hL, r'⟩) hok hg
/-- an untracked record of ours (an iterator) has turned -/
theorem Inv.turned {t' : Nat} {it : Addr} (I : Inv X pins σ H s) (k : ∀ b o, b ≠ it → s.heap.get? b = some o → h'.get? b = some o) (hn : H it = none) (hL : it ≠ X.env.locals)
    (h1 : it ∈ X.ex ∨ X.s₀.heap.objs.size ≤ it) (h2 : ∀ x c, X.env.cells.lookup x = some c → c ≠ it) (h3 : ∀ p ∈ X.pn ++ pins, p.1 ≠ it) : Inv X pins σ H { s with heap := h', toks := t' } := by
  have nit : ∀ b u, H b = some u → b ≠ it := fun b u e z => by rw [z, hn] at e; cases e
  refine I.step (g' := s.gens) (d' := s.drawn) (ch := [it]) (fun b hb => ?_) (fun b o _ _ hc e _ => k b o (fun z => hc (by simp [z])) e) (fun b o _ _ hc e _ => ⟨o.slots, k b o (fun z => hc (by simp [z])) e⟩) (fun _ _ _ _ n => n)
    (fun b o hc e => ⟨o, k b o (fun z => hc (by simp [z])) e⟩) (fun _ _ e => e) (fun _ _ _ e => e) (fun b ps e => ⟨#[], by rw [e]; simp⟩) (fun m hm => ?_) (fun b u e => ?_) I.bare
  · have e : b = it := by simpa using hb
    subst e
    exact ⟨h1, hL, h2, h3⟩
  · obtain ⟨o, es, ep, ho, r⟩ := hm
    exact ⟨o, es, ep, k _ o (Ne.symm hL) ho, r⟩
  · refine (I.hok b u e).stay (fun c v hc q => k c v ?_ q) (fun _ q => q) fun _ _ q => q
    rcases hc with z | z
    · rw [z]; exact nit b u e
    · exact nit c _ z
theorem Inv.tok (I : Inv X pins σ H s) (t : Nat) : Inv X pins σ H { s with toks := t } := I.un (h' := s.heap) (t' := t) Un.refl I.hok
/-- all objects kept -/
theorem Inv.kept {t' : Nat} (I : Inv X pins σ H s) (k : ∀ b u, s.heap.get? b = some u → h'.get? b = some u) : Inv X pins σ H { s with heap := h', toks := t' } := I.un (Un.kept k) (I.hok.kept k)
/-- a new object laid and tracked -/
theorem Inv.laid {a : Addr} {o : HO} {t' : Nat} (I : Inv X pins σ H s) (k : ∀ b u, s.heap.get? b = some u → h'.get? b = some u) (hp : s.heap.objs.size ≤ a) (new : ObjOk X.prog X.w (upd H a o) h' a o) :
    Inv X pins σ (upd H a o) { s with heap := h', toks := t' } := I.un (Un.laid k hp (I.hok.fresh hp)) (I.hok.laid k hp new)
/-- an object written -/
theorem Inv.write {x e : Addr} {o : HO} {t' : Nat} (I : Inv X pins σ H s) (mu : Mut (H x)) (he : e = x ∨ H e = some (.own x)) (k : ∀ b u, b ≠ e → s.heap.get? b = some u → h'.get? b = some u) (heo : ∃ u, h'.get? e = some u)
    (new : ObjOk X.prog X.w (upd H x o) h' x o) : Inv X pins σ (upd H x o) { s with heap := h', toks := t' } := I.un (Un.write mu he k heo) (I.hok.write mu he k heo new)
/-- forgetting slots, pins -/
theorem Inv.weak {σ' : List (Option V)} (I : Inv X pins σ H s) (hl : σ'.length = σ.length) (w : ∀ (i : Nat) v, σ'[i]? = some (some v) → σ[i]? = some (some v)) : Inv X pins σ' H s :=
  ⟨I.ok, I.os, I.bare, I.base, let ⟨m, hn, hl'⟩ := I.loc; ⟨m, hn, fun i x v e1 e2 e3 => hl' i x v e1 (w i v e2) e3⟩, I.cell, I.free, I.freeC, I.pin, I.hok, hl.trans I.len⟩
theorem Inv.pins_of {pins' : List (Addr × Obj)} (I : Inv X pins σ H s) (h : ∀ p ∈ pins', s.heap.get? p.1 = some p.2 ∧ H p.1 = none ∧ p.1 ≠ X.env.locals ∧ p.1 ∉ X.fs ∧ ∀ v, p.2.data ≠ .cell v) : Inv X pins' σ H s :=
  ⟨I.ok, I.os, I.bare, I.base, I.loc, I.cell, I.free, I.freeC, fun p hp => (List.mem_append.mp hp).elim (fun z => I.pin p (List.mem_append_left _ z)) (h p), I.hok, I.len⟩

theorem nodup_ix {N : List Str} (hN : N.Nodup) {i j : Nat} {x : Str} (a : N[i]? = some x) (b : N[j]? = some x) : i = j := by
  obtain ⟨h1, e1⟩ := List.getElem?_eq_some_iff.mp a
  obtain ⟨h2, e2⟩ := List.getElem?_eq_some_iff.mp b
  exact (List.getElem_inj hN).mp (e1.trans e2.symm)

/-- a name is stored; what changed -/
theorem store_ok2 {M : Model} {A : Around} {E : Value → Shared → Prop} {i : Nat} {x : Str} {v : V} {u : Value} {Q : Unit → Shared → Prop} (I : Inv X pins σ H s) (hN : X.N.Nodup) (hi : X.N[i]? = some x) (hx : Loc X.env.scope x) (r : RelV v u)
    (h : ∀ s', Inv X pins (σ.set i (some v)) H s' → (∃ a, Heap.SameBut a s.heap s'.heap ∧ (a = X.env.locals ∨ X.env.cells.lookup x = some a)) → Q () s') (hf : X.fn x = true ∨ X.env.scope.names.lookup x = some .local := by first | exact .inl rfl | exact .inr rfl | assumption) : wpAny M A (storeName X.env x u) Q E s := by
  obtain ⟨m, hn, hl⟩ := id I.loc
  have hcls : (X.env.scope.kind == .class || (X.env.scope.kind == .module && X.env.locals != X.env.globals)) = false := by rw [I.ok.kind]; rfl
  have hiσ : i < σ.length := by rw [I.len]; exact (List.getElem?_eq_some_iff.mp hi).1
  have cne := I.cne
  have tracked : ∀ {a : Addr} {h' : Heap}, (∃ o, s.heap.get? a = some o ∧ H a = none) → Heap.SameBut a s.heap h' → HOk X.prog X.w H h' := fun {a h'} ha hs b ob e => by
    obtain ⟨_, _, hfree⟩ := ha
    refine (I.hok b ob e).stay (fun c w' hc q => (hs.2 c ?_).trans q) (fun _ q => q) fun _ _ q => q
    rintro rfl
    rcases hc with rfl | hc
    · rw [hfree] at e; cases e
    · rw [hfree] at hc; cases hc
  rcases hx with hk | hk
  · refine wpAny_storeName_local hk hn (fun h' hn' hs => ?_) hcls
    obtain ⟨oL, _, _, hoL, _⟩ := id hn
    refine h _ ⟨I.ok, I.os, I.bare, ⟨fun b o e n hb hx => ?_, fun b o e n hb hx => ?_, I.base.free, fun b o e hx => ?_, I.base.tups, I.base.frzs, I.base.tbls⟩, ⟨_, hn', fun j y v' e1 e2 e3 => ?_⟩, fun y c e => ?_, I.free, I.freeC, fun p hp => ?_, tracked ⟨oL, hoL, I.free⟩ hs, by simpa using I.len⟩ ⟨_, hs, .inl rfl⟩
    · exact (hs.2 b (Nat.ne_of_lt (Nat.lt_of_lt_of_le (Heap.lt_size e) I.ok.above))).trans (I.base.keep b o e n hb hx)
    · obtain ⟨sl, e1⟩ := I.base.slot b o e n hb hx
      exact ⟨sl, (hs.2 b (Nat.ne_of_lt (Nat.lt_of_lt_of_le (Heap.lt_size e) I.ok.above))).trans e1⟩
    · obtain ⟨o', e1⟩ := I.base.there b o e hx
      exact ⟨o', (hs.2 b (Nat.ne_of_lt (Nat.lt_of_lt_of_le (Heap.lt_size e) I.ok.above))).trans e1⟩
    · by_cases hj : j = i
      · subst hj
        rw [hi] at e1; cases e1
        rw [List.getElem?_set_self hiσ] at e2
        cases e2
        exact ⟨u, r, .inl ⟨hk, by simp⟩⟩
      · rw [List.getElem?_set_ne (Ne.symm hj)] at e2
        obtain ⟨u', r', q⟩ := hl j y v' e1 e2 e3
        refine ⟨u', r', ?_⟩
        rcases q with ⟨k, e⟩ | ⟨k, c, e, z⟩
        · refine .inl ⟨k, ?_⟩
          have : y ≠ x := fun e => hj (nodup_ix hN e1 (e ▸ hi))
          simp [this, e]
        · exact .inr ⟨k, c, e, z.sameBut hs (cne y c e)⟩
    · obtain ⟨w', z⟩ := I.cell y c e
      exact ⟨w', z.sameBut hs (cne y c e)⟩
    · obtain ⟨e, n, ne, nf, d⟩ := I.pin p hp
      exact ⟨(hs.2 p.1 ne).trans e, n, ne, nf, d⟩
  · have hfn : X.fn x = true := by
      rcases hf with z | z
      · exact z
      · rw [z] at hk; cases hk
    obtain ⟨c, hc⟩ := I.ok.has x (.inl hk)
    obtain ⟨w', z⟩ := I.cell x c hc
    refine wpAny_storeName_cell I.ok.kind hk hc z (fun h' hc' hs => ?_)
    obtain ⟨oc, hoc, hocd⟩ := id z
    refine h { s with heap := h' } ⟨I.ok, I.os, I.bare, ⟨fun b o e n hb hx => ?_, fun b o e n hb hx => ?_, I.base.free, fun b o e hx => ?_, I.base.tups, I.base.frzs, I.base.tbls⟩, ⟨m, hn.sameBut hs (Ne.symm (cne x c hc)), fun j y v' e1 e2 e3 => ?_⟩, fun y c' e => ?_, I.free, I.freeC, fun p hp => ?_, tracked ⟨oc, hoc, I.freeC x c hc⟩ hs, by simpa using I.len⟩ ⟨c, hs, .inr hc⟩
    · exact (hs.2 b (Nat.ne_of_lt (Nat.lt_of_lt_of_le (Heap.lt_size e) (I.ok.cab x c hfn hc)))).trans (I.base.keep b o e n hb hx)
    · obtain ⟨sl, e1⟩ := I.base.slot b o e n hb hx
      exact ⟨sl, (hs.2 b (Nat.ne_of_lt (Nat.lt_of_lt_of_le (Heap.lt_size e) (I.ok.cab x c hfn hc)))).trans e1⟩
    · obtain ⟨o', e1⟩ := I.base.there b o e hx
      exact ⟨o', (hs.2 b (Nat.ne_of_lt (Nat.lt_of_lt_of_le (Heap.lt_size e) (I.ok.cab x c hfn hc)))).trans e1⟩
    · by_cases hj : j = i
      · subst hj
        rw [hi] at e1; cases e1
        rw [List.getElem?_set_self hiσ] at e2
        cases e2
        exact ⟨u, r, .inr ⟨.inl hk, c, hc, hc'⟩⟩
      · rw [List.getElem?_set_ne (Ne.symm hj)] at e2
        obtain ⟨u', r', q⟩ := hl j y v' e1 e2 e3
        refine ⟨u', r', ?_⟩
        rcases q with q | ⟨k, c', e, z'⟩
        · exact .inl q
        · refine .inr ⟨k, c', e, z'.sameBut hs ?_⟩
          rintro rfl
          exact hj (nodup_ix hN e1 (I.ok.inj _ _ _ e hc ▸ hi))
    · by_cases hcc : c' = c
      · subst hcc; exact ⟨_, hc'⟩
      · obtain ⟨w2, z2⟩ := I.cell y c' e
        exact ⟨w2, z2.sameBut hs hcc⟩
    · obtain ⟨e, n, ne, nf, d⟩ := I.pin p hp
      refine ⟨(hs.2 p.1 ?_).trans e, n, ne, nf, d⟩
      intro q
      rw [q, hoc] at e
      have q' : oc = p.2 := Option.some.inj e
      exact d w' (by rw [← q']; exact hocd)
theorem store_ok {M : Model} {A : Around} {E : Value → Shared → Prop} {i : Nat} {x : Str} {v : V} {u : Value} {Q : Unit → Shared → Prop} (I : Inv X pins σ H s) (hN : X.N.Nodup) (hi : X.N[i]? = some x) (hx : Loc X.env.scope x) (r : RelV v u)
    (h : ∀ s', Inv X pins (σ.set i (some v)) H s' → Q () s') (hf : X.fn x = true ∨ X.env.scope.names.lookup x = some .local := by first | exact .inl rfl | exact .inr rfl | assumption) : wpAny M A (storeName X.env x u) Q E s :=
  store_ok2 I hN hi hx r (fun s' I' _ => h s' I') hf
/-- behind a call or a block, the state as it is -/
theorem Inv.call' {s' : Shared} {ch : List Addr} (I : Inv X pins σ H s) (ho : s'.os = s.os) (u : Un (frs X.stack) ch H H' s.heap s'.heap) (hok : HOk X.prog X.w H' s'.heap) (hg : AllBare s'.gens)
    (hch : ∀ b ∈ ch, (b ∈ X.ex ∨ X.s₀.heap.objs.size ≤ b) ∧ b ≠ X.env.locals ∧ (∀ x c, X.env.cells.lookup x = some c → c ≠ b) ∧ ∀ p ∈ X.pn ++ pins, p.1 ≠ b) : Inv X pins σ H' s' := by
  obtain ⟨h', g', d', t', o'⟩ := s'
  have e : o' = s.os := ho
  subst e
  exact I.call (g' := g') (t' := t') (d' := d') u hok hg hch
end

/-! ### the judgements -/
/-- an exception: its class, its own dict's address (where it has one), the abstract heap behind it -/
abbrev XK := Value → Option Addr → Hp → Prop
abbrev St := List (Option V)
abbrev VK := V → Hp → Prop
/-- an expression's reading; a test's; an argument list's -/
abbrev TE := St → Hp → VK → Prop
abbrev TT := St → Hp → (Bool → Hp → Prop) → Prop
abbrev TA := St → Hp → (List V → Hp → Prop) → Prop
/-- what is wanted behind a statement -/
structure Ends where
  nx : St → Hp → Prop
  rt : VK
  bk : St → Hp → Prop := fun _ _ => False
  ct : St → Hp → Prop := fun _ _ => False
abbrev TS := Ends → St → Hp → Prop

def EP (X : Cx) (pins : List (Addr × Obj)) (σ : St) (Q : VK) (u : Value) (s' : Shared) : Prop := ∃ v H', Inv X pins σ H' s' ∧ RelV v u ∧ Q v H'
def TP (X : Cx) (pins : List (Addr × Obj)) (σ : St) (Q : Bool → Hp → Prop) (b : Bool) (s' : Shared) : Prop := ∃ H', Inv X pins σ H' s' ∧ Q b H'
def AP (X : Cx) (pins : List (Addr × Obj)) (σ : St) (Q : List V → Hp → Prop) (us : List Value) (s' : Shared) : Prop := ∃ vs H', Inv X pins σ H' s' ∧ Vals vs us ∧ Q vs H'
def SP (X : Cx) (pins : List (Addr × Obj)) (D : Ends) (f : Flow) (s' : Shared) : Prop :=
  match f with
  | .next => ∃ σ' H', Inv X pins σ' H' s' ∧ D.nx σ' H'
  | .brk => ∃ σ' H', Inv X pins σ' H' s' ∧ D.bk σ' H'
  | .cont => ∃ σ' H', Inv X pins σ' H' s' ∧ D.ct σ' H'
  | .ret u => ∃ v σ' H', Inv X pins σ' H' s' ∧ RelV v u ∧ D.rt v H'

def PE (X : Cx) (e : Expr) (t : TE) : Prop :=
  ∀ (pins : List (Addr × Obj)) (s : Shared) (σ : St) (H : Hp) (Q : VK), Inv X pins σ H s → t σ H Q → wpAny (model X.prog X.w) X.A (eval e X.env) (EP X pins σ Q) X.xe s
def PT (X : Cx) (e : Expr) (t : TT) : Prop :=
  ∀ (pins : List (Addr × Obj)) (s : Shared) (σ : St) (H : Hp) (Q : Bool → Hp → Prop), Inv X pins σ H s → t σ H Q → wpAny (model X.prog X.w) X.A (isTrue e X.env (eval e X.env)) (TP X pins σ Q) X.xe s
/-- a test whatever its 'whole' is (and, or) -/
def PW (X : Cx) (e : Expr) (t : TT) : Prop :=
  ∀ (whole : Sem Value) (pins : List (Addr × Obj)) (s : Shared) (σ : St) (H : Hp) (Q : Bool → Hp → Prop), Inv X pins σ H s → t σ H Q → wpAny (model X.prog X.w) X.A (isTrue e X.env whole) (TP X pins σ Q) X.xe s
theorem PW.pt {X : Cx} {e : Expr} {t : TT} (h : PW X e t) : PT X e t := h _
/-- an argument list (no star), from the left -/
def PA (X : Cx) (es : List Expr) (t : TA) : Prop :=
  ∀ (pos : Pos) (pins : List (Addr × Obj)) (s : Shared) (σ : St) (H : Hp) (Q : List V → Hp → Prop), Inv X pins σ H s → t σ H Q → wpAny (model X.prog X.w) X.A (spliced (backTo pos (starEach es X.env))) (AP X pins σ Q) X.xe s
def PS (X : Cx) (st : Stmt) (t : TS) : Prop :=
  ∀ (pins : List (Addr × Obj)) (s : Shared) (σ : St) (H : Hp) (D : Ends), Inv X pins σ H s → t D σ H → wpAny (model X.prog X.w) X.A (exec st X.env) (SP X pins D) X.xe s
def PSs (X : Cx) (st : List Stmt) (t : TS) : Prop :=
  ∀ (pins : List (Addr × Obj)) (s : Shared) (σ : St) (H : Hp) (D : Ends), Inv X pins σ H s → t D σ H → wpAny (model X.prog X.w) X.A (execs st X.env) (SP X pins D) X.xe s
/-- weaken the end -/
theorem thn {α : Type} {t : Sem α} {Q Q' : α → Shared → Prop} {M : Model} {A : Around} {E : Value → Shared → Prop} {s : Shared} (h : wpAny M A t Q E s) (hQ : ∀ a s, Q a s → Q' a s) : wpAny M A t Q' E s := wpAny_mono h hQ fun _ _ x => x
end L2

namespace L2
open PySem PySem.Spec PyProof.Rows
section
variable {X : Cx}

/-! ### names and constants -/
def tVar (i : Nat) : TE := fun σ H Q => ∃ v, σ[i]? = some (some v) ∧ Q v H
def tC (v : V) : TE := fun _ H Q => Q v H
theorem pe_var {i : Nat} {x : Str} {pos : Pos} (hN : X.N[i]? = some x) (hv : Vis X.env.scope x) (hd : (x == ("__debug__" : Str)) = false := by decide) (hcd : (x == ("__classdict__" : Str)) = false := by decide) : PE X (.Name x pos) (tVar i) := by
  intro pins s σ H Q I h
  obtain ⟨v, e, h⟩ := h
  obtain ⟨m, hn, hl⟩ := I.loc
  obtain ⟨u, r, l⟩ := hl i x v hN e hv
  have fin : EP X pins σ Q u s := ⟨v, H, I, r, h⟩
  rcases l with ⟨hk, hm⟩ | ⟨hk, c, hc, hcell⟩
  · exact wpAny_Name (wpAny_loadName_local I.ok.kind hk hn hm fin) hd
  · rcases hk with hk | hk
    · exact wpAny_Name (wpAny_loadName_cell I.ok.kind hk hc hcell fin) hd
    · exact wpAny_Name (wpAny_loadName_free I.ok.kind hk hc hcell fin hcd) hd
theorem pe_int {i j pos} : PE X (.Constant (.int i) j pos) (tC (.int i)) := fun _ _ _ H _ I h => wpAny_Constant_int ⟨.int i, H, I.tok _, ⟨_, rfl⟩, h⟩
theorem pe_bl {b j pos} : PE X (.Constant (.bool b) j pos) (tC (.bl b)) := fun _ _ _ H _ I h => Constant_bool ⟨.bl b, H, I, rfl, h⟩
theorem pe_str {x j pos} : PE X (.Constant (.str x) j pos) (tC (.str x)) := fun _ _ _ H _ I h => Calls.Constant_str ⟨.str x, H, I.tok _, ⟨_, rfl⟩, h⟩

/-- a global name of the def -/
def Gl (X : Cx) (x : Str) : Prop := X.env.kindOf x = some .globalImplicit
theorem ld_glob {E : Value → Shared → Prop} {pins : List (Addr × Obj)} {s : Shared} {σ : St} {H : Hp} {x : Str} {u : Value} {pos : Pos} {Q : Value → Shared → Prop} (I : Inv X pins σ H s) (hg : Gl X x) (hm : X.mg x = some u) (h : Q u s)
    (hd : (x == ("__debug__" : Str)) = false := by decide) : wpAny (model X.prog X.w) X.A (eval (.Name x pos) X.env) Q E s :=
  Calls.Name_function_global I.ok.kind hg (Calls.loadGlobal_global (by rw [I.ok.glob]; exact I.mod.glob.keeps I.bk) hm h) hd
theorem ld_blt {E : Value → Shared → Prop} {pins : List (Addr × Obj)} {s : Shared} {σ : St} {H : Hp} {x : Str} {u : Value} {pos : Pos} {Q : Value → Shared → Prop} (I : Inv X pins σ H s) (hg : Gl X x) (hm : X.mg x = none) (hv : bootBuiltins x = some u) (h : Q u s)
    (hn : x ≠ "__name__" := by decide) (hd : (x == ("__debug__" : Str)) = false := by decide) : wpAny (model X.prog X.w) X.A (eval (.Name x pos) X.env) Q E s := by
  obtain ⟨mb, h1, h2⟩ := I.mod.blt
  exact Calls.Name_function_global I.ok.kind hg (Calls.loadGlobal_builtin (by rw [I.ok.glob]; exact I.mod.glob.keeps I.bk) hm (by rw [I.ok.blt]; exact h1.keeps I.bk) ((h2 x hn).trans hv) h) hd
/-- a module's constant, a class, a function, as a value -/
theorem pe_glob {x : Str} {v : V} {u : Value} {pos : Pos} (hg : Gl X x) (hm : X.mg x = some u) (r : RelV v u) (hd : (x == ("__debug__" : Str)) = false := by decide) : PE X (.Name x pos) (tC v) :=
  fun _ _ _ H _ I h => ld_glob I hg hm ⟨v, H, I, r, h⟩ hd
theorem pe_bltn {x : Str} {v : V} {u : Value} {pos : Pos} (hg : Gl X x) (hm : X.mg x = none) (hv : bootBuiltins x = some u) (r : RelV v u) (hn : x ≠ "__name__" := by decide) (hd : (x == ("__debug__" : Str)) = false := by decide) : PE X (.Name x pos) (tC v) :=
  fun _ _ _ H _ I h => ld_blt I hg hm hv ⟨v, H, I, r, h⟩ hn hd

/-! ### arithmetic -/
/-- two ints -/
def t2I (ta tb : TE) (k : Int → Int → Hp → Prop) : St → Hp → Prop := fun σ H => ta σ H fun x H1 => tb σ H1 fun y H2 => ∃ i j, x = .int i ∧ y = .int j ∧ k i j H2
def tAdd (ta tb : TE) : TE := fun σ H Q => t2I ta tb (fun i j H2 => Q (.int (i + j)) H2) σ H
def tSub (ta tb : TE) : TE := fun σ H Q => t2I ta tb (fun i j H2 => Q (.int (i - j)) H2) σ H
/-- the left factor below 2^64 -/
def tMul (ta tb : TE) : TE := fun σ H Q => t2I ta tb (fun i j H2 => (-(2 ^ 64) < i ∧ i < 2 ^ 64) ∧ Q (.int (i * j)) H2) σ H
variable {a b : Expr} {ta tb : TE} {pos : Pos}
/-! ### comparisons -/
def PC (X : Cx) (op : CmpOp) (a b : Expr) (t : TE) : Prop :=
  ∀ (pins : List (Addr × Obj)) (s : Shared) (σ : St) (H : Hp) (Q : VK), Inv X pins σ H s → t σ H Q →
    wpAny (model X.prog X.w) X.A (eval a X.env) (fun v s₁ => wpAny (model X.prog X.w) X.A (eval b X.env) (fun u s₂ => wpAny (model X.prog X.w) X.A (compareOp op v u) (EP X pins σ Q) X.xe s₂) X.xe s₁) X.xe s
def tCmp (p : Int → Int → Bool) (ta tb : TE) : TE := fun σ H Q => t2I ta tb (fun i j H2 => Q (.bl (p i j)) H2) σ H
abbrev tLt : TE → TE → TE := tCmp fun i j => decide (i < j)
abbrev tLe : TE → TE → TE := tCmp fun i j => decide (i ≤ j)
abbrev tGt : TE → TE → TE := tCmp fun i j => decide (j < i)
abbrev tGe : TE → TE → TE := tCmp fun i j => decide (j ≤ i)
abbrev tEqI : TE → TE → TE := tCmp fun i j => decide (i = j)
abbrev tNeI : TE → TE → TE := tCmp fun i j => !decide (i = j)
/-- is None -/
def tIsN (ta : TE) : TE := fun σ H Q => ta σ H fun x H1 => Q (.bl (decide (x = .non))) H1
def tNotN (ta : TE) : TE := fun σ H Q => ta σ H fun x H1 => Q (.bl (!decide (x = .non))) H1
/-- a comparison as a value, as a test -/
def tB (t : TE) : TT := fun σ H Q => t σ H fun x H1 => ∃ c, x = .bl c ∧ Q c H1
/-! ### and, or, not -/
variable {tA tB' : TT} {rest : List Expr}
def tAnd (t u : TT) : TT := fun σ H Q => t σ H fun c H1 => if c = true then u σ H1 Q else Q false H1
def tOr (t u : TT) : TT := fun σ H Q => t σ H fun c H1 => if c = true then Q true H1 else u σ H1 Q
def tNot (t : TT) : TT := fun σ H Q => t σ H fun c H1 => Q (!c) H1
theorem pw_or1 (ha : PT X a tA) : PW X (.BoolOp .Or [a] pos) tA := by
  intro wh pins s σ H Q I h
  refine isTrue_or (thn (ha pins s σ H Q I h) fun c s1 e => ?_)
  cases c with
  | false => exact isTrue_or_nil e
  | true => exact e
theorem pw_or (ha : PT X a tA) (hb : PW X (.BoolOp .Or (b :: rest) pos) tB') : PW X (.BoolOp .Or (a :: b :: rest) pos) (tOr tA tB') := by
  intro wh pins s σ H Q I h
  refine isTrue_or (thn (ha pins s σ H _ I h) fun c s1 ⟨H1, I1, q1⟩ => ?_)
  cases c with
  | true => exact ⟨H1, I1, q1⟩
  | false => exact hb wh pins s1 σ H1 Q I1 q1
theorem pt_not (ha : PT X a tA) : PT X (.UnaryOp .Not a pos) (tNot tA) := by
  intro pins s σ H Q I h
  exact isTrue_not (ha pins s σ H (fun c H1 => Q (!c) H1) I h)
/-- .. as values (bools) -/
def tAndV (ta tb : TE) : TE := fun σ H Q => ta σ H fun x H1 => ∃ c, x = .bl c ∧ if c = true then tb σ H1 Q else Q (.bl false) H1
def tOrV (ta tb : TE) : TE := fun σ H Q => ta σ H fun x H1 => ∃ c, x = .bl c ∧ if c = true then Q (.bl true) H1 else tb σ H1 Q
def tNotV (ta : TE) : TE := fun σ H Q => ta σ H fun x H1 => ∃ c, x = .bl c ∧ Q (.bl (!c)) H1
theorem pe_one {op} {t : TE} (h : PE X a t) : PE X (.BoolOp op [a] pos) t := fun pins s σ H Q I hw => BoolOp_one (h pins s σ H Q I hw)
theorem pe_and (ha : PE X a ta) (hb : PE X (.BoolOp .And (b :: rest) pos) tb) : PE X (.BoolOp .And (a :: b :: rest) pos) (tAndV ta tb) := by
  intro pins s σ H Q I h
  refine BoolOp_and (thn (ha pins s σ H _ I h) fun v s1 ⟨x, H1, I1, r1, q1⟩ => ?_)
  obtain ⟨c, rfl, q1⟩ := q1
  cases r1
  refine wpAny_truthy_bool ?_
  cases c with
  | true => exact hb pins s1 σ H1 Q I1 q1
  | false => exact ⟨.bl false, H1, I1, rfl, q1⟩
theorem pe_not (ha : PE X a ta) : PE X (.UnaryOp .Not a pos) (tNotV ta) := by
  intro pins s σ H Q I h
  refine UnaryOp_ (thn (ha pins s σ H _ I h) fun v s1 ⟨x, H1, I1, r1, q1⟩ => ?_)
  obtain ⟨c, rfl, q1⟩ := q1
  cases r1
  exact not_of (wpAny_truthy_bool ⟨.bl (!c), H1, I1, rfl, q1⟩)
/-- a if t else b -/
def tIf (t : TT) (ta tb : TE) : TE := fun σ H Q => t σ H fun c H1 => if c = true then ta σ H1 Q else tb σ H1 Q
end
end L2

namespace L2
open PySem PySem.Spec PyProof.Rows

/-! ### a list, a tuple that is read: tracked, frozen, or an object of the module -/
def SqL (K : PySem.W.Frag) (H : Hp) (a : Addr) (xs : List V) : Prop :=
  Rd H a (.lst xs) ∨
    ∃ (o : Obj) (its : Array Value) (n : Nat), K.lookup a = some o ∧ o.cls = .type "list" ∧ o.dict = none ∧ o.data = .seq its n ∧ its.size ≤ sizeLine ∧ Vals xs its.toList
def SqT (K : PySem.W.Frag) (H : Hp) (a : Addr) (xs : List V) : Prop :=
  Rd H a (.tup xs) ∨
    ∃ (o : Obj) (its : Array Value) (n : Nat), K.lookup a = some o ∧ o.cls = .type "tuple" ∧ o.data = .seq its n ∧ its.size ≤ sizeLine ∧ Vals xs its.toList
def absV : Value → Option V
  | .none => some .non
  | .bool b => some (.bl b)
  | .int i _ => some (.int i)
  | .str x _ => some (.str x)
  | .bytes b _ => some (.byt b)
  | .float b _ => some (.flt b)
  | .ref a => some (.ref a)
  | .type n => some (.ty n)
  | _ => none
theorem RelV.abs {x : V} {u : Value} (r : RelV x u) : absV u = some x := by
  cases x with
  | non => cases r; rfl
  | bl _ => cases r; rfl
  | int _ => obtain ⟨t, rfl⟩ := r; rfl
  | str _ => obtain ⟨t, rfl⟩ := r; rfl
  | byt _ => obtain ⟨t, rfl⟩ := r; rfl
  | flt _ => obtain ⟨t, rfl⟩ := r; rfl
  | ref _ => cases r; rfl
  | ty _ => cases r; rfl
theorem RelV.inj {x y : V} {u : Value} (r : RelV x u) (q : RelV y u) : x = y := Option.some.inj (r.abs.symm.trans q.abs)
theorem Vals.inj : ∀ {xs ys : List V} {us : List Value}, Vals xs us → Vals ys us → xs = ys
  | _, _, _, .nil, .nil => rfl
  | _, _, _, .cons r t, .cons r' t' => by rw [r.inj r', Vals.inj t t']
section
variable {X : Cx} {pins : List (Addr × Obj)} {σ : St} {H : Hp} {s : Shared} {a : Addr} {xs ys : List V}
theorem SqL.of {K : PySem.W.Frag} (h : H a = some (.lst xs)) : SqL K H a xs := .inl (.inl h)
theorem SqT.of {K : PySem.W.Frag} (h : H a = some (.tup xs)) : SqT K H a xs := .inl (.inl h)
theorem Inv.list (I : Inv X pins σ H s) (h : SqL X.K H a xs) : ∃ its : List Value, Vals xs its ∧ PlainL s.heap a its.toArray ∧ xs.length ≤ sizeLine := by
  rcases h with h | ⟨o, its, n, hk, hc, hd, hs, hz, r⟩
  · obtain ⟨z, its, n, r, e⟩ := h.ok I.hok
    exact ⟨its, r, ⟨_, n, e, rfl, rfl, rfl⟩, z⟩
  · refine ⟨its.toList, r, ⟨o, n, I.kIn a o hk, hc, hd, by simpa using hs⟩, ?_⟩
    have e := r.length
    simp only [Array.length_toList] at e
    omega
theorem Inv.tuple (I : Inv X pins σ H s) (h : SqT X.K H a xs) : ∃ its : List Value, Vals xs its ∧ IsTup s.heap a its.toArray ∧ xs.length ≤ sizeLine := by
  rcases h with h | ⟨o, its, n, hk, hc, hs, hz, r⟩
  · obtain ⟨z, its, r, p⟩ := h.ok I.hok
    exact ⟨its, r, p, z⟩
  · refine ⟨its.toList, r, ⟨o, I.kIn a o hk, hc, n, by simpa using hs⟩, ?_⟩
    have e := r.length
    simp only [Array.length_toList] at e
    omega
theorem Inv.list_inj (I : Inv X pins σ H s) (h : SqL X.K H a xs) (h' : SqL X.K H a ys) : xs = ys := by
  obtain ⟨its, r, ⟨o, n, e, _, _, d⟩, _⟩ := I.list h
  obtain ⟨its', r', ⟨o', n', e', _, _, d'⟩, _⟩ := I.list h'
  rw [e] at e'; cases e'
  rw [d] at d'
  injection d' with d1 _
  have : its = its' := by simpa using congrArg Array.toList d1
  subst this
  exact r.inj r'
theorem Inv.tuple_inj (I : Inv X pins σ H s) (h : SqT X.K H a xs) (h' : SqT X.K H a ys) : xs = ys := by
  obtain ⟨its, r, ⟨o, e, _, n, d⟩, _⟩ := I.tuple h
  obtain ⟨its', r', ⟨o', e', _, n', d'⟩, _⟩ := I.tuple h'
  rw [e] at e'; cases e'
  rw [d] at d'
  injection d' with d1 _
  have : its = its' := by simpa using congrArg Array.toList d1
  subst this
  exact r.inj r'
end

/-! ### another wish about exceptions -/
abbrev Cx.wish (X : Cx) (E : Value → Shared → Prop) : Cx := { X with xe := E }
/-- no exception leaves -/
abbrev Cx.nox (X : Cx) : Cx := X.wish fun _ _ => False
theorem Cx.Ok.wish {X : Cx} (ok : X.Ok) (E : Value → Shared → Prop) : (X.wish E).Ok :=
  ⟨ok.mod, ok.kind, ok.glob, ok.blt, ok.above, ok.inj, ok.has, ok.cab, ok.hd, ok.frames, ok.stk, ok.exf, ok.bs, ok.bsz, ok.noex, ok.exfs, ok.funs, ok.frf⟩
theorem Cx.Ok.unwish {X : Cx} {E : Value → Shared → Prop} (ok : (X.wish E).Ok) : X.Ok :=
  ⟨ok.mod, ok.kind, ok.glob, ok.blt, ok.above, ok.inj, ok.has, ok.cab, ok.hd, ok.frames, ok.stk, ok.exf, ok.bs, ok.bsz, ok.noex, ok.exfs, ok.funs, ok.frf⟩
section
variable {X : Cx} {pins : List (Addr × Obj)} {σ : St} {H : Hp} {s : Shared} {E : Value → Shared → Prop}
theorem Inv.wish (I : Inv X pins σ H s) (E : Value → Shared → Prop) : Inv (X.wish E) pins σ H s := ⟨I.ok.wish E, I.os, I.bare, I.base, I.loc, I.cell, I.free, I.freeC, I.pin, I.hok, I.len⟩
theorem Inv.unwish (I : Inv (X.wish E) pins σ H s) : Inv X pins σ H s := ⟨I.ok.unwish, I.os, I.bare, I.base, I.loc, I.cell, I.free, I.freeC, I.pin, I.hok, I.len⟩
theorem SP.unwish {D : Ends} {f : Flow} {s' : Shared} (h : SP (X.wish E) pins D f s') : SP X pins D f s' := by
  cases f with
  | next => obtain ⟨σ', H', I, q⟩ := h; exact ⟨σ', H', I.unwish, q⟩
  | brk => obtain ⟨σ', H', I, q⟩ := h; exact ⟨σ', H', I.unwish, q⟩
  | cont => obtain ⟨σ', H', I, q⟩ := h; exact ⟨σ', H', I.unwish, q⟩
  | ret u => obtain ⟨v, σ', H', I, r, q⟩ := h; exact ⟨v, σ', H', I.unwish, r, q⟩
theorem PE.nox {e : Expr} {t : TE} (h : PE X.nox e t) : PE X e t := fun pins s σ H Q I hw =>
  wpAny_mono (h pins s σ H Q (I.wish _) hw) (fun _ _ ⟨v, H', I', r, q⟩ => ⟨v, H', I'.unwish, r, q⟩) fun _ _ z => False.elim z
theorem PT.nox {e : Expr} {t : TT} (h : PT X.nox e t) : PT X e t := fun pins s σ H Q I hw =>
  wpAny_mono (h pins s σ H Q (I.wish _) hw) (fun _ _ ⟨H', I', q⟩ => ⟨H', I'.unwish, q⟩) fun _ _ z => False.elim z
theorem PSs.nox {st : List Stmt} {t : TS} (h : PSs X.nox st t) : PSs X st t := fun pins s σ H D I hw =>
  wpAny_mono (h pins s σ H D (I.wish _) hw) (fun _ _ q => q.unwish) fun _ _ z => False.elim z
end

/-! ### blocks and small statements -/
section
variable {X : Cx} {st : Stmt} {rest : List Stmt} {t u : TS} {e : Expr} {te : TE} {pos : Pos}
def tNext : TS := fun D σ H => D.nx σ H
def tSeq (t u : TS) : TS := fun D σ H => t { D with nx := u D } σ H
theorem pss_nil : PSs X [] tNext := fun _ _ σ H _ I h => wpAny_execs_nil ⟨σ, H, I, h⟩
theorem pss_cons (h1 : PS X st t) (h2 : PSs X rest u) : PSs X (st :: rest) (tSeq t u) := by
  intro pins s σ H D I h
  refine wpAny_execs_cons (thn (h1 pins s σ H { D with nx := u D } I h) fun f s1 q => ?_)
  cases f with
  | next =>
    obtain ⟨σ', H', I', q⟩ := q
    exact h2 pins s1 σ' H' D I' q
  | ret v => exact q
  | brk => exact q
  | cont => exact q
def tBreak : TS := fun D σ H => D.bk σ H
def tCont : TS := fun D σ H => D.ct σ H
/-- in a def's body nothing is shown -/
theorem Inv.quiet {pins : List (Addr × Obj)} {σ : St} {H : Hp} {s : Shared} (I : Inv X pins σ H s) : interactive X.env = false := by simp [interactive, I.ok.kind]
/-- an expression whose value is dropped -/
def tDrop (te : TE) : TS := fun D σ H => te σ H fun _ H1 => D.nx σ H1
theorem ps_expr (he : PE X e te) (hs : swapsWith e none pos.line X.env = pure false := by rfl) : PS X (.Expr e pos) (tDrop te) := by
  intro pins s σ H D I h
  exact wpAny_Expr_any (thn (he pins s σ H _ I h) fun v s1 ⟨x, H1, I1, r1, q1⟩ => ⟨σ, H1, I1, q1⟩) I.quiet hs
def tRet (te : TE) : TS := fun D σ H => te σ H D.rt
theorem ps_ret (he : PE X e te) : PS X (.Return (some e) pos) (tRet te) := by
  intro pins s σ H D I h
  exact wpAny_Return_some (thn (he pins s σ H _ I h) fun v s1 ⟨x, H1, I1, r1, q1⟩ => ⟨x, σ, H1, I1, r1, q1⟩)
def tRetN : TS := fun D _ H => D.rt .non H
def tIfS (c : TT) (t u : TS) : TS := fun D σ H => c σ H fun b H1 => if b = true then t D σ H1 else u D σ H1
theorem ps_if {c : Expr} {a b : List Stmt} {tc : TT} (hc : PT X c tc) (ha : PSs X a t) (hb : PSs X b u) : PS X (.If c a b pos) (tIfS tc t u) := by
  intro pins s σ H D I h
  refine wpAny_If (thn (hc pins s σ H _ I h) fun d s1 ⟨H1, I1, q1⟩ => ?_)
  cases d with
  | true => exact ha pins s1 σ H1 D I1 q1
  | false => exact hb pins s1 σ H1 D I1 q1
/-- code that the proof never comes to -/
def tNever : TS := fun _ _ _ => False
end

/-! ### targets -/
abbrev TG := V → St → Hp → (St → Hp → Prop) → Prop
abbrev TGs := List V → St → Hp → (St → Hp → Prop) → Prop
def PG (X : Cx) (target : Expr) (t : TG) : Prop :=
  ∀ (pins : List (Addr × Obj)) (s : Shared) (σ : St) (H : Hp) (v : V) (u : Value) (Q : St → Hp → Prop), Inv X pins σ H s → RelV v u → t v σ H Q →
    wpAny (model X.prog X.w) X.A (assign target X.env u) (fun _ s' => ∃ σ' H', Inv X pins σ' H' s' ∧ Q σ' H') X.xe s
/-- several targets, one after another -/
def PGs (X : Cx) (ts : List Expr) (t : TGs) : Prop :=
  ∀ (pins : List (Addr × Obj)) (s : Shared) (σ : St) (H : Hp) (vs : List V) (us : List Value) (Q : St → Hp → Prop), Inv X pins σ H s → Vals vs us → t vs σ H Q →
    wpAny (model X.prog X.w) X.A (assignInOrder ((assignEach ts X.env).map (·.2)) us) (fun _ s' => ∃ σ' H', Inv X pins σ' H' s' ∧ Q σ' H') X.xe s
/-- o[i] = v, by values -/
abbrev TSet := V → V → V → Hp → (Hp → Prop) → Prop
def PSet (X : Cx) (t : TSet) : Prop :=
  ∀ (pins : List (Addr × Obj)) (s : Shared) (σ : St) (H : Hp) (o i v : V) (ov iv u : Value) (Q : Hp → Prop), Inv X pins σ H s → RelV o ov → RelV i iv → RelV v u → t o i v H Q →
    wpAny (model X.prog X.w) X.A (setItem ov iv u) (fun _ s' => ∃ H', Inv X pins σ H' s' ∧ Q H') X.xe s
/-- a op= b, by values -/
abbrev TIp := V → V → Hp → VK → Prop
def PIp (X : Cx) (op : Operator) (t : TIp) : Prop :=
  ∀ (pins : List (Addr × Obj)) (s : Shared) (σ : St) (H : Hp) (x y : V) (v u : Value) (Q : VK), Inv X pins σ H s → RelV x v → RelV y u → t x y H Q →
    wpAny (model X.prog X.w) X.A (inplaceOp op v u) (EP X pins σ Q) X.xe s
section
variable {X : Cx} {pos : Pos}
def gName (i : Nat) : TG := fun v σ H Q => Q (σ.set i (some v)) H
theorem pg_name {i : Nat} {x : Str} (hN : X.N.Nodup) (hi : X.N[i]? = some x) (hx : Loc X.env.scope x) (hf : X.fn x = true ∨ X.env.scope.names.lookup x = some .local := by first | exact .inl rfl | exact .inr rfl | assumption) : PG X (.Name x pos) (gName i) := by
  intro pins s σ H v u Q I r h
  exact wpAny_assign_Name (store_ok I hN hi hx r (fun s' I' => ⟨_, H, I', h⟩) hf)
def gNil : TGs := fun vs σ H Q => vs = [] ∧ Q σ H
def gCons (t : TG) (u : TGs) : TGs := fun vs σ H Q => ∃ v r, vs = v :: r ∧ t v σ H fun σ' H' => u r σ' H' Q
theorem pgs_nil : PGs X [] gNil := by
  intro pins s σ H vs us Q I r h
  obtain ⟨e, h⟩ := h
  subst e
  cases r
  exact assignInOrder_nil ⟨σ, H, I, h⟩
theorem pgs_cons {e : Expr} {es : List Expr} {t : TG} {u : TGs} (h1 : PG X e t) (h2 : PGs X es u)
    (hs : (assignEach (e :: es) X.env).map (·.2) = assign e X.env :: (assignEach es X.env).map (·.2) := by rfl) : PGs X (e :: es) (gCons t u) := by
  intro pins s σ H vs us Q I r h
  obtain ⟨v, vr, e1, h⟩ := h
  subst e1
  cases r with
  | cons r rr =>
    rw [hs]
    refine assignInOrder_cons (thn (h1 pins s σ H _ _ _ I r h) fun _ s1 ⟨σ1, H1, I1, q1⟩ => ?_)
    exact h2 pins s1 σ1 H1 _ _ Q I1 rr q1
/-- (a, b, ..) = a tuple of that length -/
def gTup (K : PySem.W.Frag) (n : Nat) (t : TGs) : TG := fun v σ H Q => ∃ a xs, v = .ref a ∧ SqT K H a xs ∧ xs.length = n ∧ t xs σ H Q
theorem pg_tup {es : List Expr} {k : Nat} {t : TGs} {n : Nat} (hc : X.calm = true) (h : PGs X es t)
    (hn : (assignEach es X.env).length = n := by rfl) (hst : (assignEach es X.env).findIdx? (·.1) = none := by rfl) : PG X (.Tuple es k pos) (gTup X.K n t) := by
  intro pins s σ H v u Q I r hw
  obtain ⟨a, xs, e1, hq, hl, hw⟩ := hw
  subst e1
  cases r
  obtain ⟨its, rv, ht, hz⟩ := I.tuple hq
  refine assign_Tuple_tuple (I.ok.hd hc) ht (by simp [hn, ← hl, rv.length]) hst fun h' hx => ?_
  have I1 : Inv X pins σ H { s with heap := h' } := I.kept (t' := s.toks) fun b o e => hx b o (Nat.ne_of_lt (Heap.lt_size e)) e
  exact h pins _ σ H xs _ Q I1 (by simpa using rv) hw
/-- o[i] = .. -/
def gSub (to ti : TE) (t : TSet) : TG := fun v σ H Q => to σ H fun o H1 => ti σ H1 fun i H2 => t o i v H2 fun H3 => Q σ H3
/-- target = value -/
def tAsg (te : TE) (g : TG) : TS := fun D σ H => te σ H fun x H1 => g x σ H1 D.nx
/-- name = value -/
theorem ps_set {i : Nat} {x : Str} {e : Expr} {te : TE} {pos' : Pos} (hN : X.N.Nodup) (hi : X.N[i]? = some x) (hx : Loc X.env.scope x) (he : PE X e te) (hs : swapsWith e (some (.Name x pos')) pos.line X.env = pure false := by rfl) (hf : X.fn x = true ∨ X.env.scope.names.lookup x = some .local := by first | exact .inl rfl | exact .inr rfl | assumption) :
    PS X (.Assign [.Name x pos'] e pos) (tAsg te (gName i)) := by
  intro pins s σ H D I h
  refine wpAny_Assign_Name (thn (he pins s σ H _ I h) fun v s1 ⟨y, H1, I1, r1, q1⟩ => ?_) hs
  exact store_ok I1 hN hi hx r1 (fun s2 I2 => ⟨_, H1, I2, q1⟩) hf
/-- a, b = x, y with plain local names: stored from the right; the pair itself is not tracked (the opening rows as in PyProof/Rows/TupAssign.lean:23) -/
def tPar (i j : Nat) (ta : TA) : TS := fun D σ H => ta σ H fun vs H1 => ∃ v w, vs = [v, w] ∧ D.nx ((σ.set i (some v)).set j (some w)) H1
/-- name op= e -/
def tAug (i : Nat) (te : TE) (ti : TIp) : TS := fun D σ H => ∃ x, σ[i]? = some (some x) ∧ te σ H fun y H1 => ti x y H1 fun z H2 => D.nx (σ.set i (some z)) H2
/-- o[i] op= e -/
def tAugS (to ti te : TE) (tget : V → V → Hp → VK → Prop) (tip : TIp) (tset : TSet) : TS := fun D σ H => to σ H fun o H1 => ti σ H1 fun i H2 => tget o i H2 fun x H3 => te σ H3 fun y H4 => tip x y H4 fun z H5 => tset o i z H5 fun H6 => D.nx σ H6
/-- o[i], by values -/
def PGet (X : Cx) (t : V → V → Hp → VK → Prop) : Prop :=
  ∀ (pins : List (Addr × Obj)) (s : Shared) (σ : St) (H : Hp) (o i : V) (ov iv : Value) (Q : VK), Inv X pins σ H s → RelV o ov → RelV i iv → t o i H Q →
    wpAny (model X.prog X.w) X.A (getItem ov iv) (EP X pins σ Q) X.xe s
/-- ints -/
def ipI (f : Int → Int → Int) : TIp := fun x y H Q => ∃ i j, x = .int i ∧ y = .int j ∧ Q (.int (f i j)) H
end

/-! ### while -/
section
variable {X : Cx} {pos : Pos}
/-- the invariant W with its measure -/
def tWhile (c : TT) (tb : TS) : TS := fun D σ H => ∃ W : Nat → St → Hp → Prop, (∃ m, W m σ H) ∧ ∀ m σ H, W m σ H →
  c σ H fun b H1 => if b = true then ∃ N : St → Hp → Prop, (∀ σ' H', N σ' H' → ∃ m', m' < m ∧ W m' σ' H') ∧ tb { D with nx := N, ct := N, bk := D.nx } σ H1 else D.nx σ H1
end

/-! ### what a loop or a comprehension walks -/
/-- at turn i: it yields x (the heap may grow), or it stops -/
structure It where
  go : Nat → Hp → Prop
  yld : Nat → Hp → V → Hp → Prop
  stop : Nat → Hp → Prop
/-- the iterator's own objects may turn: they are not the frame's, not pinned, younger than the entry (or a comprehension's own) -/
def FpOk (X : Cx) (pins : List (Addr × Obj)) (H : Hp) (b : Addr) : Prop :=
  H b = none ∧ b ≠ X.env.locals ∧ b ∉ X.fs ∧ (b ∈ X.ex ∨ X.s₀.heap.objs.size ≤ b) ∧ (∀ x c, X.env.cells.lookup x = some c → c ≠ b) ∧ ∀ p ∈ X.pn ++ pins, p.1 ≠ b
theorem Inv.fpOk {X : Cx} {pins : List (Addr × Obj)} {σ : St} {H H' : Hp} {s : Shared} {b : Addr} (I : Inv X pins σ H s) (hb : s.heap.objs.size ≤ b) (hn : H' b = none) : FpOk X pins H' b := by
  refine ⟨hn, Nat.ne_of_gt (Nat.lt_of_lt_of_le I.lt hb), I.nofs hb, .inr (Nat.le_trans I.sz hb), fun x c e z => ?_, fun p hp z => ?_⟩
  · obtain ⟨v, q⟩ := I.cell x c e
    exact absurd (Nat.lt_of_lt_of_le q.lt (by rw [z]; exact hb)) (Nat.lt_irrefl _)
  · exact absurd (Nat.lt_of_lt_of_le (Heap.lt_size (I.pin p hp).1) (by rw [z]; exact hb)) (Nat.lt_irrefl _)
structure Turn (P : Program) (w : World) (K : PySem.W.Frag) (tg : Expr) (J : It) (fp : List Addr) (it : Addr) (tn : Nat → Heap → Prop) : Prop where
  mem : it ∈ fp
  obj : ∀ i h, tn i h → ∀ b ∈ fp, ∃ o, h.get? b = some o ∧ ∀ v, o.data ≠ .cell v
  keep : ∀ i h h', tn i h → (∀ b ∈ fp, ∀ o, h.get? b = some o → h'.get? b = some o) → tn i h'
  item : ∀ (X : Cx), X.prog = P → X.w = w → X.K = K → X.calm = true → ∀ (i : Nat) (pins : List (Addr × Obj)) (s : Shared) (σ : St) (H : Hp) (E : Value → Shared → Prop), Inv X pins σ H s → (∀ b ∈ fp, FpOk X pins H b) → tn i s.heap → J.go i H →
    wpAny (model P w) X.A (pyNext (.ref it)) (fun r s1 => ∃ u, r = some u ∧
      wpAny (model P w) X.A (letOwnedTupleGo tg (.ref it) u) (fun _ s2 => ∃ x H', Inv X pins σ H' s2 ∧ RelV x u ∧ J.yld i H x H' ∧ tn (i + 1) s2.heap ∧ ∀ b ∈ fp, H' b = none) E s1) E s
  done : ∀ (X : Cx), X.prog = P → X.w = w → X.K = K → X.calm = true → ∀ (i : Nat) (pins : List (Addr × Obj)) (s : Shared) (σ : St) (H : Hp) (E : Value → Shared → Prop), Inv X pins σ H s → (∀ b ∈ fp, FpOk X pins H b) → tn i s.heap → J.stop i H →
    wpAny (model P w) X.A (pyNext (.ref it)) (fun r s1 => r = none ∧ Inv X pins σ H s1) E s
  self : ∀ (A : Around) (i : Nat) (s : Shared) (Q : Value → Shared → Prop) (E : Value → Shared → Prop), tn i s.heap → Q (.ref it) s → wpAny (model P w) A (pyIter (.ref it)) Q E s
abbrev TI := St → Hp → (It → Hp → Prop) → Prop
/-- an iterator has come -/
def PIE (X : Cx) (pins : List (Addr × Obj)) (σ : St) (tg : Expr) (R : It → Hp → Prop) (itv : Value) (s2 : Shared) : Prop :=
  ∃ (it : Addr) (fp : List Addr) (tn : Nat → Heap → Prop) (J : It) (H' : Hp), itv = .ref it ∧ Inv X pins σ H' s2 ∧ Turn X.prog X.w X.K tg J fp it tn ∧ tn 0 s2.heap ∧ (∀ b ∈ fp, FpOk X pins H' b) ∧ R J H'
def PI (X : Cx) (tg iter : Expr) (wi : TI) : Prop :=
  ∀ (pins : List (Addr × Obj)) (s : Shared) (σ : St) (H : Hp) (R : It → Hp → Prop), Inv X pins σ H s → wi σ H R →
    wpAny (model X.prog X.w) X.A (eval iter X.env) (fun v s1 => wpAny (model X.prog X.w) X.A (pyIter v) (PIE X pins σ tg R) X.xe s1) X.xe s

/-- the step ahead of the store is nothing for an iterator that keeps no tuple -/
theorem go_of {M : Model} {A : Around} {E : Value → Shared → Prop} {s : Shared} {tg : Expr} {it : Addr} {u : Value} {o : Obj} {n : String} {vs : Array Value} {Q : Unit → Shared → Prop} (ho : s.heap.get? it = some o) (hc : o.cls = .type n) (hd : o.data = .fields vs)
    (hn : ["enumerate", "zip", "dict_itemiterator", "dict_reverseitemiterator", "odict_iterator", "itertools.zip_longest", "itertools.pairwise"].contains n = false) (hQ : Q () s) : wpAny M A (letOwnedTupleGo tg (.ref it) u) Q E s := by
  unfold letOwnedTupleGo
  cases tg <;> first
    | exact wpAny_pure hQ
    | (cases u <;> first
        | exact wpAny_pure hQ
        | (refine wpAny_bind (wpAny_load ho ?_)
           rw [hc, hd]
           show wpAny M A (if (["enumerate", "zip", "dict_itemiterator", "dict_reverseitemiterator", "odict_iterator", "itertools.zip_longest", "itertools.pairwise"].contains n && vs[0]? == some (rawInt _)) = true then _ else _) Q E s
           rw [if_neg (by intro h; rw [hn, Bool.false_and] at h; cases h)]
           exact wpAny_pure hQ))

/-- the list at a, as it stands at each turn (a loop may append to it) -/
def Itl (K : PySem.W.Frag) (a : Addr) : It :=
  ⟨fun i H => ∃ xs x, SqL K H a xs ∧ xs[i]? = some x, fun i H x H' => H' = H ∧ ∀ xs, SqL K H a xs → xs[i]? = some x, fun i H => ∃ xs, SqL K H a xs ∧ xs.length ≤ i⟩
def Itt (K : PySem.W.Frag) (a : Addr) : It :=
  ⟨fun i H => ∃ xs x, SqT K H a xs ∧ xs[i]? = some x, fun i H x H' => H' = H ∧ ∀ xs, SqT K H a xs → xs[i]? = some x, fun i H => ∃ xs, SqT K H a xs ∧ xs.length ≤ i⟩
/-- lo, lo + 1, .. (n of them) -/
def Itr (lo : Int) (n : Nat) : It := ⟨fun i _ => i < n, fun i H x H' => H' = H ∧ x = .int (lo + i), fun i _ => n ≤ i⟩
theorem turn_list {P : Program} {w : World} {K : PySem.W.Frag} {tg : Expr} (a it : Addr) : Turn P w K tg (Itl K a) [it] it (fun i h => h.IsListIter it a i) where
  mem := by simp
  obj := fun i h st b hb => by
    have e : b = it := by simpa using hb
    subst e
    obtain ⟨o, e, c, d⟩ := st
    exact ⟨o, e, fun v z => by rw [d] at z; cases z⟩
  keep := fun i h h' st k => st.at fun o e => k it (by simp) o e
  item := by
    intro X hP hw hK hc i pins s σ H E I hf st hg
    subst hP hw hK
    obtain ⟨xs, x, hq, hx⟩ := hg
    obtain ⟨its, rv, p, hz⟩ := I.list hq
    obtain ⟨u, hu, ru⟩ := rv.get hx
    obtain ⟨f0, f1, f2, f3, f4, f5⟩ := hf it (by simp)
    refine wpAny_pyNext_list_item st p.isList (x := u) (by simpa using hu) fun h' st' sb => ?_
    have I1 : Inv X pins σ H { s with heap := h' } := I.turned (t' := s.toks) (fun b o hb e => (sb.2 b hb).trans e) f0 f1 f3 f4 f5
    obtain ⟨o, e, c, d⟩ := id st'
    exact ⟨u, rfl, go_of (s := { s with heap := h' }) e c d (by decide) ⟨x, H, I1, ru, ⟨rfl, fun ys hy => by rw [I.list_inj hy hq]; exact hx⟩, st', fun b hb => (hf b hb).1⟩⟩
  done := by
    intro X hP hw hK hc i pins s σ H E I hf st hg
    subst hP hw hK
    obtain ⟨xs, hq, hx⟩ := hg
    obtain ⟨its, rv, p, hz⟩ := I.list hq
    obtain ⟨f0, f1, f2, f3, f4, f5⟩ := hf it (by simp)
    have hl := rv.length
    exact wpAny_pyNext_list_end (I.ok.hd hc) st p.isList (by simp; omega) fun h' eb => ⟨rfl, I.turned (t' := s.toks) (fun b o hb e => eb b o hb e) f0 f1 f3 f4 f5⟩
  self := fun _ _ _ _ _ st h => wpAny_pyIter_listiter st h
theorem turn_range {P : Program} {w : World} {K : PySem.W.Frag} {tg : Expr} (it : Addr) (lo : Int) (n : Nat) : Turn P w K tg (Itr lo n) [it] it (fun i h => IsRangeIter h it (lo + (i : Nat) * 1) ((n : Int) - (i : Nat)) 1) where
  mem := by simp
  obj := fun i h st b hb => by
    have e : b = it := by simpa using hb
    subst e
    exact ⟨_, st, fun v z => by
      have z' : Data.fields _ = Data.cell v := z
      cases z'⟩
  keep := fun i h h' st k => k it (by simp) _ st
  item := by
    intro X hP hw hK hc i pins s σ H E I hf st hg
    subst hP hw hK
    obtain ⟨f0, f1, f2, f3, f4, f5⟩ := hf it (by simp)
    have W := Walks.range (prog := X.prog) (w := X.w) (I.ok.hd hc) it lo 1 n
    refine W.item i s _ _ hg st fun v h' tk hv st' kk => ?_
    obtain ⟨t, rfl⟩ := hv
    have I1 : Inv X pins σ H { s with heap := h', toks := tk } := I.turned (fun b o hb e => kk b o (by simpa using hb) e) f0 f1 f3 f4 f5
    refine ⟨_, rfl, go_of (s := { s with heap := h', toks := tk }) (n := "range_iterator") st' rfl rfl (by decide) ⟨.int (lo + i), H, I1, ⟨t, ?_⟩, ⟨rfl, rfl⟩, st', fun b hb => (hf b hb).1⟩⟩
    rw [Int.mul_one]
  done := by
    intro X hP hw hK hc i pins s σ H E I hf st hg
    subst hP hw hK
    obtain ⟨f0, f1, f2, f3, f4, f5⟩ := hf it (by simp)
    exact wpAny_pyNext_range_end (I.ok.hd hc) st (by have : n ≤ i := hg; omega) fun h' eb => ⟨rfl, I.turned (t' := s.toks) (fun b o hb e => eb b o hb e) f0 f1 f3 f4 f5⟩
  self := fun _ _ _ _ _ st h => wpAny_pyIter_rangeiter st h
end L2

namespace L2
open PySem PySem.Spec PyProof.Rows
section
variable {X : Cx} {tg : Expr}
def iList (K : PySem.W.Frag) (tl : TE) : TI := fun σ H R => tl σ H fun x H1 => ∃ a, x = .ref a ∧ (∃ xs, SqL K H1 a xs) ∧ R (Itl K a) H1
def iTup (K : PySem.W.Frag) (tl : TE) : TI := fun σ H R => tl σ H fun x H1 => ∃ a, x = .ref a ∧ (∃ xs, SqT K H1 a xs) ∧ R (Itt K a) H1
theorem pi_list {l : Expr} {tl : TE} (hl : PE X l tl) : PI X tg l (iList X.K tl) := by
  intro pins s σ H R I h
  refine thn (hl pins s σ H _ I h) fun v s1 ⟨x, H1, I1, r1, q1⟩ => ?_
  obtain ⟨a, e, ⟨xs, hq⟩, q⟩ := q1
  subst e
  cases r1
  obtain ⟨its, rv, p, hz⟩ := I1.list hq
  refine wpAny_pyIter_list p.isList ?_
  refine ⟨s1.heap.objs.size, [s1.heap.objs.size], _, _, H1, rfl, I1.kept (t' := s1.toks) fun b o e => Heap.get?_push_of_some _ e, turn_list a _, ⟨_, Heap.get?_push_size _ rfl, rfl, rfl⟩, fun b hb => ?_, q⟩
  have e : b = s1.heap.objs.size := by simpa using hb
  subst e
  exact I1.fpOk (Nat.le_refl _) (I1.hok.fresh (Nat.le_refl _))
/-- a range object just made, walked -/
theorem range_it {pins : List (Addr × Obj)} {σ : St} {H : Hp} {s : Shared} {R : It → Hp → Prop} {E : Value → Shared → Prop} {lo hi : Int} {t u v : Tok} {tk : Nat} (I : Inv X pins σ H s) (h1 : -(2 ^ 62) ≤ lo) (h2 : lo < 2 ^ 62) (h3 : -(2 ^ 62) ≤ hi) (h4 : hi < 2 ^ 62)
    (q : R (Itr lo (hi - lo).toNat) H) : wpAny (model X.prog X.w) X.A (pyIter (.ref s.heap.objs.size)) (PIE X pins σ tg R) E { s with heap := s.heap.push { cls := .type "range", data := .fields #[.int lo t, .int hi u, .int 1 v] }, toks := tk } := by
  refine wpAny_pyIter_range (IsRange.new ..) (small_one h1 h2 h3 h4) ?_
  have I1 : Inv X pins σ H { s with heap := s.heap.push { cls := .type "range", data := .fields #[.int lo t, .int hi u, .int 1 v] }, toks := tk } := I.kept fun b o e => Heap.get?_push_of_some _ e
  refine ⟨(s.heap.push { cls := .type "range", data := .fields #[.int lo t, .int hi u, .int 1 v] }).objs.size, [(s.heap.push { cls := .type "range", data := .fields #[.int lo t, .int hi u, .int 1 v] }).objs.size], _, _, H, rfl,
    I1.kept (t' := tk) fun b o e => Heap.get?_push_of_some _ e, turn_range _ lo (hi - lo).toNat, ?_, fun b hb => ?_, q⟩
  · have e1 : lo + ((0 : Nat) : Int) * 1 = lo := by simp
    have e2 : (((hi - lo).toNat : Nat) : Int) - ((0 : Nat) : Int) = Builtin.Range.rangeSize lo hi 1 := by rw [rangeSize_one]; split <;> omega
    show IsRangeIter _ _ (lo + ((0 : Nat) : Int) * 1) ((((hi - lo).toNat : Nat) : Int) - ((0 : Nat) : Int)) 1
    rw [e1, e2]
    exact Heap.get?_push_size _ rfl
  · have e : b = (s.heap.push { cls := .type "range", data := .fields #[.int lo t, .int hi u, .int 1 v] }).objs.size := by simpa using hb
    subst e
    exact I1.fpOk (Nat.le_refl _) (I1.hok.fresh (Nat.le_refl _))
def iRng1 (ta : TA) : TI := fun σ H R => ta σ H fun vs H1 => ∃ j : Int, vs = [.int j] ∧ -(2 ^ 62) ≤ j ∧ j < 2 ^ 62 ∧ R (Itr 0 j.toNat) H1
def iRng2 (ta : TA) : TI := fun σ H R => ta σ H fun vs H1 => ∃ i j : Int, vs = [.int i, .int j] ∧ (-(2 ^ 62) ≤ i ∧ i < 2 ^ 62 ∧ -(2 ^ 62) ≤ j ∧ j < 2 ^ 62) ∧ R (Itr i (j - i).toNat) H1
theorem pi_range1 {a : Expr} {ta : TA} {p pos : Pos} (hg : Gl X "range") (hm : X.mg "range" = none) (ha : PA X [a] ta) (hs : starEach [a] X.env = [(false, eval a X.env)] := by rfl) : PI X tg (.Call (.Name "range" p) [a] [] pos) (iRng1 ta) := by
  intro pins s σ H R I h
  refine Call_ (ld_blt I hg hm boot_range (PyProof.Rows.callWith_type1 (thn (ha pos pins s σ H _ I h) fun us s1 ⟨vs, H1, I1, r1, q1⟩ => ?_) hs rfl))
  obtain ⟨j, e, q1, q2, q⟩ := q1
  subst e
  cases r1 with
  | cons r rr =>
    cases rr
    obtain ⟨t, rfl⟩ := r
    exact call_range_1 (range_it I1 (by omega) (by omega) q1 q2 (by simpa using q))
/-! ### for -/
/-- W: the invariant by the turn and a measure; N: what the body is to reach -/
def tFor (wi : TI) (g : TG) (tb : TS) : TS := fun D σ H => wi σ H fun J H1 => ∃ W : Nat → Nat → St → Hp → Prop, (∃ m, W 0 m σ H1) ∧ ∀ i m σ H, W i m σ H →
  (J.stop i H ∧ D.nx σ H) ∨ (J.go i H ∧ ∃ N : St → Hp → Prop, (∀ σ' H', N σ' H' → ∃ m', m' < m ∧ W (i + 1) m' σ' H') ∧ ∀ x H', J.yld i H x H' → g x σ H' fun σ2 H2 => tb { D with nx := N, ct := N, bk := D.nx } σ2 H2)
/-- the records at fp as they stand -/
def pinsAt (fp : List Addr) (h : Heap) : List (Addr × Obj) := fp.filterMap fun b => (h.get? b).map fun o => (b, o)
theorem mem_pinsAt {fp : List Addr} {h : Heap} {b : Addr} {o : Obj} (hb : b ∈ fp) (e : h.get? b = some o) : (b, o) ∈ pinsAt fp h := List.mem_filterMap.mpr ⟨b, hb, by rw [e]; rfl⟩
theorem of_pinsAt {fp : List Addr} {h : Heap} {p : Addr × Obj} (hp : p ∈ pinsAt fp h) : p.1 ∈ fp ∧ h.get? p.1 = some p.2 := by
  obtain ⟨b, hb, e⟩ := List.mem_filterMap.mp hp
  cases q : h.get? b with
  | none => rw [q] at e; cases e
  | some o =>
    rw [q] at e
    have e' : (b, o) = p := Option.some.inj e
    subst e'
    exact ⟨hb, q⟩
theorem Inv.pinned {pins : List (Addr × Obj)} {σ : St} {H : Hp} {s : Shared} {fp : List Addr} (I : Inv X pins σ H s) (hf : ∀ b ∈ fp, FpOk X pins H b) (ho : ∀ b ∈ fp, ∃ o, s.heap.get? b = some o ∧ ∀ v, o.data ≠ .cell v) : Inv X (pins ++ pinsAt fp s.heap) σ H s :=
  I.pins_of fun p hp => (List.mem_append.mp hp).elim (fun z => I.pin p (List.mem_append_right _ z)) fun z => by
    obtain ⟨hb, e⟩ := of_pinsAt z
    obtain ⟨f0, f1, f2, _⟩ := hf p.1 hb
    obtain ⟨o, e', d⟩ := ho p.1 hb
    rw [e] at e'; cases e'
    exact ⟨e, f0, f1, f2, d⟩
theorem Inv.unpinned {pins pl : List (Addr × Obj)} {σ : St} {H : Hp} {s : Shared} (I : Inv X (pins ++ pl) σ H s) : Inv X pins σ H s := I.pins_of fun p hp => I.pin p (List.mem_append_right _ (List.mem_append_left _ hp))
theorem ps_for {iter : Expr} {body : List Stmt} {wi : TI} {g : TG} {tb : TS} {pos : Pos} (hp : PassesOwn (model X.prog X.w) X.A X.env X.xe) (hc : X.calm = true) (hi : PI X tg iter wi) (hg : PG X tg g) (hb : PSs X body tb)
    (hs : ∀ x, foldedSetIterable iter X.env x = pure x := by intro _; rfl) : PS X (.For tg iter body [] pos) (tFor wi g tb) := by
  intro pins s σ H D I h
  refine wpAny_For (thn (hi pins s σ H _ I h) fun v s1 h1 => thn h1 fun itv s2 h2 => ?_) hs
  obtain ⟨it, fp, tn, J, H2, e, I2, T, st2, f2, W, ⟨m0, w0⟩, turn⟩ := h2
  subst e
  -- what stays true of the iterator's objects through the loop
  have stat : ∀ {H' : Hp}, (∀ b ∈ fp, H' b = none) → ∀ b ∈ fp, FpOk X pins H' b := fun hn b hb => ⟨hn b hb, (f2 b hb).2⟩
  refine codeAny_forLoop_any (fun n s' => ∃ i σ' H', Inv X pins σ' H' s' ∧ tn i s'.heap ∧ (∀ b ∈ fp, H' b = none) ∧ W i n σ' H') ?_ m0 ⟨0, σ, H2, I2, st2, fun b hb => (f2 b hb).1, w0⟩
  rintro n s3 ⟨i, σ3, H3, I3, st3, fr3, w3⟩
  rcases turn i n σ3 H3 w3 with ⟨stop, qn⟩ | ⟨go, N, hN, step⟩
  · refine wpAny_passesOwn hp (thn (T.done X rfl rfl rfl hc i pins s3 σ3 H3 X.xe I3 (stat fr3) st3 stop) fun r s4 ⟨hr, I4⟩ => ?_)
    subst hr
    exact wpAny_execs_nil ⟨σ3, H3, I4, qn⟩
  · refine wpAny_passesOwn hp (thn (T.item X rfl rfl rfl hc i pins s3 σ3 H3 X.xe I3 (stat fr3) st3 go) fun r s4 ⟨u, hr, h4⟩ => ?_)
    subst hr
    refine wpAny_passesOwn hp (thn h4 fun _ s5 ⟨x, H5, I5, r5, y5, st5, fr5⟩ => ?_)
    have I5' := I5.pinned (stat fr5) (T.obj _ _ st5)
    refine wpAny_passesOwn hp (thn (hg _ s5 σ3 H5 x u _ I5' r5 (step x H5 y5)) fun _ s6 ⟨σ6, H6, I6, q6⟩ => ?_)
    refine wpAny_passesOwn hp (thn (hb _ s6 σ6 H6 _ I6 q6) fun f s7 q7 => ?_)
    have again : ∀ {σ7 : St} {H7 : Hp}, Inv X (pins ++ pinsAt fp s5.heap) σ7 H7 s7 → N σ7 H7 → ∃ m, m < n ∧ ∃ i σ' H', Inv X pins σ' H' s7 ∧ tn i s7.heap ∧ (∀ b ∈ fp, H' b = none) ∧ W i m σ' H' := fun {σ7 H7} I7 n7 => by
      obtain ⟨m', hm, w7⟩ := hN σ7 H7 n7
      refine ⟨m', hm, i + 1, σ7, H7, I7.unpinned, T.keep _ _ _ st5 fun b hb o e => (I7.pin (b, o) (List.mem_append_right _ (List.mem_append_right _ (mem_pinsAt hb e)))).1, fun b hb => ?_, w7⟩
      obtain ⟨o, e, d⟩ := T.obj _ _ st5 b hb
      exact (I7.pin (b, o) (List.mem_append_right _ (List.mem_append_right _ (mem_pinsAt hb e)))).2.1
    cases f with
    | next => obtain ⟨σ7, H7, I7, n7⟩ := q7; exact again I7 n7
    | cont => obtain ⟨σ7, H7, I7, n7⟩ := q7; exact again I7 n7
    | brk => obtain ⟨σ7, H7, I7, q7⟩ := q7; exact ⟨σ7, H7, I7.unpinned, q7⟩
    | ret v => obtain ⟨x7, σ7, H7, I7, r7, q7⟩ := q7; exact ⟨x7, σ7, H7, I7.unpinned, r7, q7⟩
end

/-! ### the forms one uses -/
end L2

namespace L2
open PySem PySem.Spec PyProof.Rows

abbrev R2 := V → V → Hp → VK → Prop
/-- a two-place operation on values: f is binaryOp op, inplaceOp op or compareOp op -/
def OpR (X : Cx) (f : Value → Value → Sem Value) (r : R2) : Prop :=
  ∀ (pins : List (Addr × Obj)) (s : Shared) (σ : St) (H : Hp) (x y : V) (v u : Value) (Q : VK), Inv X pins σ H s → RelV x v → RelV y u → r x y H Q →
    wpAny (model X.prog X.w) X.A (f v u) (EP X pins σ Q) X.xe s
/-- a one-place operation -/
def UnR (X : Cx) (f : Value → Sem Value) (r : V → Hp → VK → Prop) : Prop :=
  ∀ (pins : List (Addr × Obj)) (s : Shared) (σ : St) (H : Hp) (x : V) (v : Value) (Q : VK), Inv X pins σ H s → RelV x v → r x H Q →
    wpAny (model X.prog X.w) X.A (f v) (EP X pins σ Q) X.xe s
/-- a call of a value that is known (a builtin, a type) with values -/
def CallR (X : Cx) (f : Value) (r : List V → Hp → VK → Prop) : Prop :=
  ∀ (pins : List (Addr × Obj)) (s : Shared) (σ : St) (H : Hp) (xs : List V) (us : List Value) (Q : VK), Inv X pins σ H s → Vals xs us → r xs H Q →
    wpAny (model X.prog X.w) X.A (call f us) (EP X pins σ Q) X.xe s
/-- a value's truth -/
def TruR (X : Cx) (r : V → Hp → (Bool → Hp → Prop) → Prop) : Prop :=
  ∀ (pins : List (Addr × Obj)) (s : Shared) (σ : St) (H : Hp) (x : V) (v : Value) (Q : Bool → Hp → Prop), Inv X pins σ H s → RelV x v → r x H Q →
    wpAny (model X.prog X.w) X.A (truthy v) (TP X pins σ Q) X.xe s

def tOp (r : R2) (ta tb : TE) : TE := fun σ H Q => ta σ H fun x H1 => tb σ H1 fun y H2 => r x y H2 Q
def tUn (r : V → Hp → VK → Prop) (ta : TE) : TE := fun σ H Q => ta σ H fun x H1 => r x H1 Q
/-- ints in, under C, and a value out -/
def rI (C : Int → Int → Prop) (g : Int → Int → V) : R2 := fun x y H Q => ∃ i j, x = .int i ∧ y = .int j ∧ C i j ∧ Q (g i j) H
def rI0 (g : Int → Int → V) : R2 := fun x y H Q => ∃ i j, x = .int i ∧ y = .int j ∧ Q (g i j) H
def rU (g : Int → V) : V → Hp → VK → Prop := fun x H Q => ∃ i, x = .int i ∧ Q (g i) H

section
variable {X : Cx} {a b c : Expr} {ta tb tc : TE} {pos : Pos}

theorem binT (ha : PE X a ta) (hb : PE X b tb) {pins : List (Addr × Obj)} {s : Shared} {σ : St} {H : Hp} {R : V → V → Hp → Prop} (I : Inv X pins σ H s)
    (h : ta σ H fun x H1 => tb σ H1 fun y H2 => R x y H2) {Q : Value → Shared → Prop} {f : Value → Value → Sem Value}
    (hf : ∀ v u s2 x y H2, Inv X pins σ H2 s2 → RelV x v → RelV y u → R x y H2 → wpAny (model X.prog X.w) X.A (f v u) Q X.xe s2) :
    wpAny (model X.prog X.w) X.A (eval a X.env) (fun v s₁ => wpAny (model X.prog X.w) X.A (eval b X.env) (fun u s₂ => wpAny (model X.prog X.w) X.A (f v u) Q X.xe s₂) X.xe s₁) X.xe s := by
  refine thn (ha pins s σ H _ I h) fun v s1 ⟨x, H1, I1, r1, q1⟩ => ?_
  refine thn (hb pins s1 σ H1 _ I1 q1) fun u s2 ⟨y, H2, I2, r2, q2⟩ => ?_
  exact hf v u s2 x y H2 I2 r1 r2 q2

theorem pe_op {op : Operator} {r : R2} (ho : OpR X (binaryOp op) r) (ha : PE X a ta) (hb : PE X b tb) : PE X (.BinOp a op b pos) (tOp r ta tb) := by
  intro pins s σ H Q I h
  exact wpAny_BinOp (binT ha hb I h fun v u s2 x y H2 I2 rx ry q => ho pins s2 σ H2 x y v u Q I2 rx ry q)
/-! ### ints -/
theorem opI {f : Value → Value → Sem Value} {C : Int → Int → Prop} {g : Int → Int → Int}
    (rule : ∀ (i j : Int) (t u : Tok) (s : Shared) (Q : Value → Shared → Prop) (E : Value → Shared → Prop), C i j → Q (.int (g i j) s.toks) { s with toks := s.toks + 1 } → wpAny (model X.prog X.w) X.A (f (.int i t) (.int j u)) Q E s) :
    OpR X f (rI C fun i j => .int (g i j)) := by
  intro pins s σ H x y v u Q I rx ry h
  obtain ⟨i, j, rfl, rfl, hc, q⟩ := h
  obtain ⟨t, rfl⟩ := rx
  obtain ⟨t', rfl⟩ := ry
  exact rule i j t t' s _ _ hc ⟨.int (g i j), H, I.tok _, ⟨_, rfl⟩, q⟩
theorem opI0 {f : Value → Value → Sem Value} {g : Int → Int → Int}
    (rule : ∀ (i j : Int) (t u : Tok) (s : Shared) (Q : Value → Shared → Prop) (E : Value → Shared → Prop), Q (.int (g i j) s.toks) { s with toks := s.toks + 1 } → wpAny (model X.prog X.w) X.A (f (.int i t) (.int j u)) Q E s) :
    OpR X f (rI0 fun i j => .int (g i j)) := by
  intro pins s σ H x y v u Q I rx ry h
  obtain ⟨i, j, rfl, rfl, q⟩ := h
  obtain ⟨t, rfl⟩ := rx
  obtain ⟨t', rfl⟩ := ry
  exact rule i j t t' s _ _ ⟨.int (g i j), H, I.tok _, ⟨_, rfl⟩, q⟩
def CDiv (i j : Int) : Prop := 0 < j ∧ j < 1073741824
def CDivN (i j : Int) : Prop := j ≠ 0 ∧ j.natAbs < 1073741824
def CPow (i j : Int) : Prop := 0 ≤ j ∧ j ≤ 1000000 ∧ i.natAbs < 2 ^ 64
def CMul (i j : Int) : Prop := (-(2 ^ 64) < i ∧ i < 2 ^ 64) ∨ (-(2 ^ 64) < j ∧ j < 2 ^ 64)
theorem CMul.ok {i j : Int} (h : CMul i j) : IntMulOk i j := by
  rcases h with ⟨h1, h2⟩ | ⟨h1, h2⟩
  · exact .of_left (intBits_le_64 h1 h2)
  · exact .of_right (intBits_le_64 h1 h2)
theorem op_add : OpR X (binaryOp .Add) (rI0 fun i j => .int (i + j)) := opI0 fun _ _ _ _ _ _ _ q => add_int q
theorem op_sub : OpR X (binaryOp .Sub) (rI0 fun i j => .int (i - j)) := opI0 fun _ _ _ _ _ _ _ q => sub_int q
theorem op_mul : OpR X (binaryOp .Mult) (rI CMul fun i j => .int (i * j)) := opI fun _ _ _ _ _ _ _ hc q => mul_int q hc.ok
/-- % by a positive divisor of any size -/
theorem op_mod : OpR X (binaryOp .Mod) (rI (fun _ j => 0 < j) fun i j => .int (i % j)) := opI fun i j _ _ _ _ _ hc q => by
  have h1 : (0 : Int) < j := hc
  exact mod_int' (by omega) (by rw [Int.fmod_eq_emod_of_nonneg i (by omega)]; exact q)
theorem op_pow : OpR X (binaryOp .Pow) (rI CPow fun i j => .int (i ^ j.toNat)) := opI fun _ _ _ _ _ _ _ hc q => pow_int_small hc.1 hc.2.1 hc.2.2 q
/-! ### bools among ints: n += (a < b) -/
end

/-! ### comparisons -/
/-- the scalars that == tells apart as data does -/
def scal : V → V → Bool
  | .non, .non => true | .non, .int _ => true | .int _, .non => true | .non, .bl _ => true | .bl _, .non => true | .non, .str _ => true | .str _, .non => true
  | .int _, .int _ => true | .bl _, .bl _ => true | .str _, .str _ => true | .byt _, .byt _ => true
  | .int _, .str _ => true | .str _, .int _ => true | .bl _, .str _ => true | .str _, .bl _ => true
  | _, _ => false
def rEq : R2 := fun x y H Q => scal x y = true ∧ Q (.bl (decide (x = y))) H
def rNe : R2 := fun x y H Q => scal x y = true ∧ Q (.bl (!decide (x = y))) H

section
variable {X : Cx} {a b c : Expr} {ta tb tc : TE} {pos : Pos}
/-- is, is not of two objects that are tracked lists or instances -/
def isObj : HO → Bool
  | .lst _ => true
  | .ins _ _ _ => true
  | _ => false
/-- two rules for one operation: by cases -/
theorem OpR.or {f : Value → Value → Sem Value} {r r' : R2} (h : OpR X f r) (h' : OpR X f r') : OpR X f (fun x y H Q => r x y H Q ∨ r' x y H Q) := by
  intro pins s σ H x y v u Q I rx ry q
  rcases q with q | q
  · exact h pins s σ H x y v u Q I rx ry q
  · exact h' pins s σ H x y v u Q I rx ry q

theorem nomark (b : Expr) {op : CmpOp} (h : op ≠ .In := by decide) (h2 : op ≠ .NotIn := by decide) : behindInMarks op b = false := by
  have e1 : (op == CmpOp.In) = false := by cases op <;> first | rfl | exact absurd rfl h
  have e2 : (op == CmpOp.NotIn) = false := by cases op <;> first | rfl | exact absurd rfl h2
  cases b <;> simp [behindInMarks, e1, e2]
/-- a comparison as a value; hm: nomark b, or (for in, not in) by with_unfolding_all rfl -/
theorem pe_cmpR {op : CmpOp} {r : R2} (ho : OpR X (compareOp op) r) (ha : PE X a ta) (hb : PE X b tb) (hm : behindInMarks op b = false) : PE X (.Compare a [op] [b] pos) (tOp r ta tb) := by
  intro pins s σ H Q I h
  exact wpAny_Compare1 (binT ha hb I h fun v u s2 x y H2 I2 rx ry q => ho pins s2 σ H2 x y v u Q I2 rx ry q) hm
/-- a reading of a value as a test -/
def tTest (t : TE) : TT := fun σ H Q => t σ H fun x H' => ∃ k, x = .bl k ∧ Q k H'
theorem pt_cmpR {op : CmpOp} {r : R2} (ho : OpR X (compareOp op) r) (ha : PE X a ta) (hb : PE X b tb) (hm : behindInMarks op b = false) : PT X (.Compare a [op] [b] pos) (tTest (tOp r ta tb)) := by
  intro pins s σ H Q I h
  refine wpAny_isTrue_Compare1 (thn (ha pins s σ H _ I h) fun v s1 ⟨x, H1, I1, r1, q1⟩ => thn (hb pins s1 σ H1 _ I1 q1) fun u s2 ⟨y, H2, I2, r2, q2⟩ =>
    thn (ho pins s2 σ H2 x y v u _ I2 r1 r2 q2) fun c s3 ⟨z, H3, I3, r3, k, e, q3⟩ => ?_) hm
  subst e
  cases r3
  exact wpAny_truthy_bool ⟨H3, I3, q3⟩
/-- a op1 b op2 c -/
def tChain (r r' : R2) (ta tb tc : TE) : TE := fun σ H Q => ta σ H fun x H1 => tb σ H1 fun y H2 => r x y H2 fun z H3 => ∃ k, z = .bl k ∧
  (if k = true then tc σ H3 fun w' H4 => r' y w' H4 Q else Q (.bl false) H3)
/-! ### truth -/
/-- a value's truth by the abstract heap -/
def TruV (K : PySem.W.Frag) (x : V) (H : Hp) (k : Bool) : Prop :=
  match x with
  | .non => k = false
  | .bl b => k = b
  | .int i => k = (i != 0)
  | .str y => y.length ≤ sizeLine ∧ k = ((y.length : Int) != 0)
  | .byt y => y.size ≤ sizeLine ∧ k = ((y.size : Int) != 0)
  | .ref p => (∃ xs, SqL K H p xs ∧ k = !xs.isEmpty) ∨ (∃ xs, SqT K H p xs ∧ k = !xs.isEmpty) ∨ ∃ kvs, H p = some (.dK kvs) ∧ k = !kvs.isEmpty
  | _ => False
theorem isEmpty_kv {κ : Type} {kvs : List (κ × V)} {vs : List (κ × Value)} (r : KV kvs vs) : (!vs.isEmpty) = !kvs.isEmpty := by
  cases r <;> rfl
theorem isEmpty_of {xs : List V} {its : List Value} (r : Vals xs its) : (!its.toArray.isEmpty) = !xs.isEmpty := by
  cases r <;> simp
theorem line63 : (sizeLine : Nat) < 2 ^ 63 := by rw [sizeLine_eq]; decide
theorem tru_ok : TruR X (fun x H Q => ∃ k, TruV X.K x H k ∧ Q k H) := by
  intro pins s σ H x v Q I rx h
  obtain ⟨k, e, q⟩ := h
  have hl := line63
  have hs : sizeLine = 16777216 := sizeLine_eq
  cases x with
  | non =>
    cases rx
    have e' : k = false := e
    subst e'
    exact truthy_none ⟨H, I, q⟩
  | bl b =>
    cases rx
    have e' : k = b := e
    subst e'
    exact wpAny_truthy_bool ⟨H, I, q⟩
  | int i =>
    obtain ⟨t, rfl⟩ := rx
    have e' : k = (i != 0) := e
    subst e'
    exact PySem.P.truthy_int ⟨H, I, q⟩
  | str y =>
    obtain ⟨t, rfl⟩ := rx
    obtain ⟨hy, e'⟩ : y.length ≤ sizeLine ∧ k = ((y.length : Int) != 0) := e
    subst e'
    exact PySem.P.truthy_str (by omega) ⟨H, I.tok _, q⟩
  | byt y =>
    obtain ⟨t, rfl⟩ := rx
    obtain ⟨hy, e'⟩ : y.size ≤ sizeLine ∧ k = ((y.size : Int) != 0) := e
    subst e'
    exact PySem.W.truthy_bytes (by omega) ⟨H, I.tok _, q⟩
  | ref p =>
    cases rx
    have e' : (∃ xs, SqL X.K H p xs ∧ k = !xs.isEmpty) ∨ (∃ xs, SqT X.K H p xs ∧ k = !xs.isEmpty) ∨ ∃ kvs, H p = some (.dK kvs) ∧ k = !kvs.isEmpty := e
    rcases e' with ⟨xs, hx, e'⟩ | ⟨xs, hx, e'⟩ | ⟨kvs, hx, e'⟩
    · subst e'
      obtain ⟨its, r, pl, hz⟩ := I.list hx
      have hlen := r.length
      exact wpAny_truthy_list pl.isList (by simp only [List.size_toArray]; omega) ⟨H, I.tok _, by rw [isEmpty_of r]; exact q⟩
    · subst e'
      obtain ⟨its, r, pl, hz⟩ := I.tuple hx
      have hlen := r.length
      exact truthy_tuple pl (by simp only [List.size_toArray]; omega) ⟨H, I.tok _, by rw [isEmpty_of r]; exact q⟩
    · subst e'
      obtain ⟨hz, hS, vs, r, m⟩ : kvs.length ≤ sizeLine ∧ (p == sysModules) = false ∧ ∃ vs, KV kvs vs ∧ s.heap.DictOf (mixKind X.prog X.w) p vs := I.hok p _ hx
      have hlen : kvs.length = vs.length := Paired.length r
      exact wpAny_truthy_dict hS m (by omega) ⟨H, I.tok _, by rw [isEmpty_kv r]; exact q⟩
  | _ => exact (show False from e).elim
/-- any expression whose test is its value's truth (a name, a call, a subscript, a field ..: he by fun _ => rfl) -/
theorem pt_truth (ha : PE X a ta) (he : ∀ whole, isTrue a X.env whole = (do let v ← whole; standAt a.pos; holding [v] (truthy v))) :
    PT X a (fun σ H Q => ta σ H fun x H' => ∃ k, TruV X.K x H' k ∧ Q k H') := by
  intro pins s σ H Q I h
  exact isTrue_plain (thn (ha pins s σ H _ I h) fun v s1 ⟨x, H1, I1, r1, q1⟩ => tru_ok pins s1 σ H1 x v Q I1 r1 q1) (he _)

/-! ### strs and bytes -/
theorem op_add_str : OpR X (binaryOp .Add) (fun x y H Q => ∃ i j, x = .str i ∧ y = .str j ∧ i.length + j.length ≤ sizeLine ∧ Q (.str (i ++ j)) H) := by
  intro pins s σ H x y v u Q I rx ry h
  obtain ⟨i, j, rfl, rfl, hz, q⟩ := h
  obtain ⟨t, rfl⟩ := rx
  obtain ⟨t', rfl⟩ := ry
  exact add_str (fun t' tk => ⟨.str (i ++ j), H, I.tok _, ⟨_, rfl⟩, q⟩) hz
def PlainIxT (b : Expr) : Prop := ∀ o i, subscripted b false o i = operate [o, i] (getItem o i)
/-! ### scalar builtins, by CallR -/
theorem vals1 {x : V} {us : List Value} (r : Vals [x] us) : ∃ u, us = [u] ∧ RelV x u := by
  cases r with
  | cons r1 r2 => cases r2; exact ⟨_, rfl, r1⟩
theorem vals2 {x y : V} {us : List Value} (r : Vals [x, y] us) : ∃ u w', us = [u, w'] ∧ RelV x u ∧ RelV y w' := by
  cases r with
  | cons r1 r2 =>
    cases r2 with
    | cons r3 r4 => cases r4; exact ⟨_, _, rfl, r1, r3⟩
/-- len of a str, a bytes, a list, a tuple -/
def LenV (K : PySem.W.Frag) (x : V) (H : Hp) (n : Nat) : Prop :=
  match x with
  | .str y => y.length ≤ sizeLine ∧ n = y.length
  | .byt y => y.size ≤ sizeLine ∧ n = y.size
  | .ref p => (∃ xs, SqL K H p xs ∧ n = xs.length) ∨ ∃ xs, SqT K H p xs ∧ n = xs.length
  | _ => False
end
end L2

namespace L2
open PySem PySem.Spec PyProof.Rows

/-! ### an instance, its attributes a map -/
structure ObjM (h : Heap) (x dx C : Addr) (mA : Str → Option Value) : Prop where
  obj : h.get? x = some (PySem.W.instObj C dx)
  ns : h.Ns1 dx mA
  ne : dx ≠ x

theorem lookIn_ns {h : Heap} {dx : Addr} {mA : Str → Option Value} (n : h.Ns1 dx mA) : ∃ od, h.get? dx = some od ∧ ∀ name, PySem.W.lookIn name od = some (mA name) := by
  obtain ⟨o, es, ep, ho, hd, hk, _, hm⟩ := n
  refine ⟨o, ho, fun name => ?_⟩
  have e := hm name
  unfold nsFind findBy at e
  rw [← Array.find?_toList] at e
  unfold PySem.W.lookIn
  rw [hd]
  dsimp only
  split
  · rename_i y q
    rw [q] at e
    exact congrArg some e
  · rename_i q
    rw [q] at e
    have a : es.toList.any (·.refKey) = false := by
      rw [List.any_eq_false]
      intro y hy
      obtain ⟨z, t, hkey⟩ := hk y (Array.mem_toList_iff.mp hy)
      simp [DictEntry.refKey, hkey]
    have a' : ¬ es.toList.any (·.refKey) = true := by rw [a]; exact Bool.false_ne_true
    rw [if_neg a']
    exact congrArg some e

section
variable {prog : Program} {w : World} {A : Around} {E : Value → Shared → Prop} {s : Shared} {K : PySem.W.Frag} {x dx C f : Addr} {mA : Str → Option Value} {name : Str} {v : Value}

end

/-! ### the attributes as a list of pairs -/
def putF (f : Str) (v : V) : List (Str × V) → List (Str × V)
  | [] => [(f, v)]
  | (g, x) :: r => if g = f then (g, v) :: r else (g, x) :: putF f v r
theorem lookup_putF (f g : Str) (v : V) : ∀ fs : List (Str × V), (putF f v fs).lookup g = if g = f then some v else fs.lookup g
  | [] => by
    show List.lookup g [(f, v)] = _
    by_cases h : g = f
    · have hb : (g == f) = true := beq_iff_eq.mpr h
      simp only [List.lookup, hb, if_pos h]
    · have hb : (g == f) = false := beq_eq_false_iff_ne.mpr h
      simp only [List.lookup, hb, if_neg h]
  | (k, x) :: r => by
    have ih := lookup_putF f g v r
    rw [show putF f v ((k, x) :: r) = (if k = f then (k, v) :: r else (k, x) :: putF f v r) from rfl]
    by_cases hk : k = f
    · rw [if_pos hk]
      by_cases h : g = k
      · have hb : (g == k) = true := beq_iff_eq.mpr h
        simp only [List.lookup, hb, if_pos (h.trans hk)]
      · have hb : (g == k) = false := beq_eq_false_iff_ne.mpr h
        simp only [List.lookup, hb, if_neg (fun e : g = f => h (e.trans hk.symm))]
    · rw [if_neg hk]
      by_cases h : g = k
      · have hb : (g == k) = true := beq_iff_eq.mpr h
        simp only [List.lookup, hb, if_neg (fun e : g = f => hk (h.symm.trans e))]
      · have hb : (g == k) = false := beq_eq_false_iff_ne.mpr h
        simp only [List.lookup, hb]
        exact ih
theorem handed_of {v : V} {u : Value} (r : RelV v u) : PySem.W.handedIn u = true := by
  cases v with
  | non => cases (show u = Value.none from r); rfl
  | bl b => cases (show u = Value.bool b from r); rfl
  | int i => obtain ⟨t, e⟩ := (show ∃ t, u = Value.int i t from r); cases e; rfl
  | str x => obtain ⟨t, e⟩ := (show ∃ t, u = Value.str x t from r); cases e; rfl
  | byt b => obtain ⟨t, e⟩ := (show ∃ t, u = Value.bytes b t from r); cases e; rfl
  | flt b => obtain ⟨t, e⟩ := (show ∃ t, u = Value.float b t from r); cases e; rfl
  | ref a => cases (show u = Value.ref a from r); rfl
  | ty n => cases (show u = Value.type n from r); rfl

section
variable {P : Program} {w : World} {H H' : Hp} {h h' : Heap} {a C dx : Addr} {fs fs' : List (Str × V)}
end

/-! ### what of the text a class must have -/
structure Cls (K : PySem.W.Frag) (C : Addr) : Prop where
  pg : PySem.W.plainGet K C Str.empty = true
  hd : PySem.W.hasDictIn K C = true
  po : PySem.W.plainOver K C = true
  sa : PySem.W.findIn K (.ref C) "__setattr__" = some (some (.builtin "object.__setattr__"))
theorem Cls.get {K : PySem.W.Frag} {C : Addr} (c : Cls K C) (f : Str) : PySem.W.plainGet K C f = true := c.pg
/-- no class of it has the name -/
def NoAttr (K : PySem.W.Frag) (C : Addr) (f : Str) : Prop := PySem.W.findIn K (.ref C) f = some none
/-- a constant of the class -/
structure Con (K : PySem.W.Frag) (C : Addr) (f : Str) (v : V) (u : Value) : Prop where
  at_ : PySem.W.findIn K (.ref C) f = some (some u)
  rel : RelV v u
  get : PySem.W.specialIn K u "__get__" = some none
  cp : PySem.W.copiedNames.contains f = false
/-- a method: a plain def of the class or of one above it -/
structure Meth (K : PySem.W.Frag) (C : Addr) (m : Str) (f : Addr) : Prop where
  at_ : PySem.W.findIn K (.ref C) m = some (some (.ref f))
  fn : PySem.W.isFn K (.ref f) = true
  kp : PySem.W.keepIn K (.ref f) = true

section
variable {X : Cx} {pins : List (Addr × Obj)} {σ : St} {H : Hp} {s : Shared} {a C dx : Addr} {fs : List (Str × V)} {f : Str} {v : V} {A : Around} {E : Value → Shared → Prop}

/-- e.f where nothing but the object is asked: through attributeBase (super) and the last hold -/
theorem attr_of {prog : Program} {w : World} {env : Env} {e : Expr} {f : Str} {pos : Pos} {s : Shared} {Q : Value → Shared → Prop} (hb : attributeBase e f env (eval e env) = eval e env)
    (h : wpAny (model prog w) A (eval e env) (fun o s₁ => wpAny (model prog w) A (getAttr o f true) Q E s₁) E s) : wpAny (model prog w) A (eval (.Attribute e f pos) env) Q E s :=
  Attribute_any_ h (by rw [arm_eval_Attribute, hb])
end

/-! ### readings and rules -/
/-- e.f, an attribute of the instance -/
def tFld (K : PySem.W.Frag) (ta : TE) (f : Str) : TE := fun σ H Q => ta σ H fun x H1 => ∃ a C dx fs v, x = .ref a ∧ H1 a = some (.ins C dx fs) ∧ Cls K C ∧ NoAttr K C f ∧ fs.lookup f = some v ∧ Q v H1
/-- e.f, a constant of the class -/
def tCon (K : PySem.W.Frag) (ta : TE) (f : Str) : TE := fun σ H Q => ta σ H fun x H1 => ∃ a C dx fs v u, x = .ref a ∧ H1 a = some (.ins C dx fs) ∧ Cls K C ∧ Con K C f v u ∧ fs.lookup f = none ∧ Q v H1
/-- e.f = value -/
def sFld (K : PySem.W.Frag) (ta tv : TE) (f : Str) : TS := fun D σ H => tv σ H fun y H1 => ta σ H1 fun x H2 => ∃ a C dx fs, x = .ref a ∧ H2 a = some (.ins C dx fs) ∧ Cls K C ∧ NoAttr K C f ∧ fs.length < 1000 ∧
  D.nx σ (upd H2 a (.ins C dx (putF f y fs)))
/-- an augmented operator on two values -/
def InOp (X : Cx) (op : Operator) (rd : V → V → Hp → VK → Prop) : Prop :=
  ∀ (pins : List (Addr × Obj)) (s : Shared) (σ : St) (H : Hp) (x y : V) (u v : Value) (Q : VK), Inv X pins σ H s → RelV x u → RelV y v → rd x y H Q → wpAny (model X.prog X.w) X.A (inplaceOp op u v) (EP X pins σ Q) X.xe s
/-- e.f op= value -/
def sFldAug (K : PySem.W.Frag) (ta tv : TE) (rd : V → V → Hp → VK → Prop) (f : Str) : TS := fun D σ H => ta σ H fun x H1 => ∃ a C dx fs v, x = .ref a ∧ H1 a = some (.ins C dx fs) ∧ Cls K C ∧ NoAttr K C f ∧ fs.lookup f = some v ∧
  tv σ H1 fun y H2 => rd v y H2 fun z H3 => ∃ dx' fs', H3 a = some (.ins C dx' fs') ∧ fs'.length < 1000 ∧ D.nx σ (upd H3 a (.ins C dx' (putF f z fs')))

section
variable {X : Cx} {o e value : Expr} {f : Str} {pos pos' tpos : Pos} {ta tv : TE}
def rAdd : V → V → Hp → VK → Prop := fun x y H Q => ∃ i j, x = .int i ∧ y = .int j ∧ Q (.int (i + j)) H
def rSub : V → V → Hp → VK → Prop := fun x y H Q => ∃ i j, x = .int i ∧ y = .int j ∧ Q (.int (i - j)) H
end

/-! ### isinstance -/
section
variable {X : Cx} {pins : List (Addr × Obj)} {σ : St} {H : Hp} {s : Shared} {A : Around} {E : Value → Shared → Prop} {Q : Value → Shared → Prop} {c : Value} {b : Bool}
/-- the type of a value, as the fragment's deciders take it; for an instance its class -/
inductive TyOf (K : PySem.W.Frag) (H : Hp) : V → Value → Prop where
  | non : TyOf K H .non (.type "NoneType")
  | bl (x : Bool) : TyOf K H (.bl x) (.type "bool")
  | int (i : Int) : TyOf K H (.int i) (.type "int")
  | str (x : Str) : TyOf K H (.str x) (.type "str")
  | flt (x : UInt64) : TyOf K H (.flt x) (.type "float")
  | lst {a : Addr} {xs : List V} (e : H a = some (.lst xs)) : TyOf K H (.ref a) (.type "list")
  | frz {a : Addr} {o : Obj} {xs : List V} (e : H a = some (.frz o (.lst xs))) : TyOf K H (.ref a) (.type "list")
  | tup {a : Addr} {xs : List V} (e : H a = some (.tup xs)) : TyOf K H (.ref a) (.type "tuple")
  | dK {a : Addr} {kvs : List (Key × V)} (e : H a = some (.dK kvs)) : TyOf K H (.ref a) (.type "dict")
  | dT {a : Addr} {kvs : List (List Key × V)} (e : H a = some (.dT kvs)) : TyOf K H (.ref a) (.type "dict")
  | ins {a C dx : Addr} {fs : List (Str × V)} (e : H a = some (.ins C dx fs)) (cl : Cls K C) (ha : PySem.W.findIn K (.ref C) "__class__" = some (some (.builtin "object.__class__")))
      (hn : PySem.W.specialIn K (.builtin "object.__class__") "__get__" = some (some (.builtin "getset_descriptor.__get__"))) (htk : PySem.W.takesIn K (.builtin "object.__class__") = some true)
      (hm : PySem.W.mroIn K C (.type "object") = some true) : TyOf K H (.ref a) (.ref C)
end
end L2

namespace L2
open PySem PySem.Spec PyProof.Rows

/-! ### room -/
structure Room (k : Nat) (A : Around) : Prop where
  hd : A.handled = none
  dp : A.depth + 3 * k + 5 < recursionLimit
  un : A.units + 16 * k + 200 < cLine
theorem Room.mono {j k : Nat} {A : Around} (r : Room k A) (h : j ≤ k) : Room j A := ⟨r.hd, by have := r.dp; omega, by have := r.un; omega⟩
theorem Room.deeper {k : Nat} {A : Around} (r : Room (k + 1) A) (env : Env) : Room k (A.deeper env) :=
  ⟨r.hd, by have := r.dp; show A.depth + 1 + 3 * k + 5 < _; omega, by have := r.un; show A.units + 3 + 16 * k + 200 < _; omega⟩
theorem Room.in1 {k : Nat} {A : Around} (r : Room (k + 1) A) : Room k A.in1 :=
  ⟨r.hd, by have := r.dp; show A.depth + 3 * k + 5 < _; omega, by have := r.un; show A.units + 1 + 16 * k + 200 < _; omega⟩
theorem make_depth {A : Around} {C : Addr} {us : List Value} {kw : List (Str × Value)} : (A.under (.builtin "type.__call__" ⟨.ref C :: us, kw⟩)).depth = A.depth + 1 := by
  first | rfl | simp [Around.under, Code.weight, Code.isCreation, Code.isGuard, Code.isCaller, Code.frames, Code.isFrame, guardIds]
theorem make_units {A : Around} {C : Addr} {us : List Value} {kw : List (Str × Value)} : (A.under (.builtin "type.__call__" ⟨.ref C :: us, kw⟩)).units = A.units + 1 := by
  first | rfl | simp [Around.under, Code.cUnits, Code.frames, Code.isFrame]
theorem Room.make {k : Nat} {A : Around} (r : Room (k + 1) A) (C : Addr) (us : List Value) (kw : List (Str × Value)) : Room k (A.under (.builtin "type.__call__" ⟨.ref C :: us, kw⟩)) :=
  ⟨r.hd, by have := r.dp; rw [make_depth]; omega, by have := r.un; rw [make_units]; omega⟩
theorem Room.depth {k : Nat} {A : Around} (r : Room k A) : A.depth < recursionLimit := by have := r.dp; omega
theorem Room.units {k : Nat} {A : Around} (r : Room k A) : A.units + 64 < cLine := by have := r.un; omega
/-! ### argument lists and displays -/
def tNil : TA := fun _ H Q => Q [] H
def tCons (ta : TE) (tr : TA) : TA := fun σ H Q => ta σ H fun x H1 => tr σ H1 fun xs H2 => Q (x :: xs) H2
section
variable {X : Cx} {e : Expr} {es : List Expr} {te : TE} {t : TA} {pos : Pos}
theorem pa_nil : PA X [] tNil := fun _ _ _ _ H Q I h => Calls.spliced_nil ⟨[], H, I, .nil, h⟩
theorem pa_cons (ha : PE X e te) (hr : PA X es t) (hs : starEach (e :: es) X.env = (false, eval e X.env) :: starEach es X.env := by rfl) : PA X (e :: es) (tCons te t) := by
  intro pos pins s σ H Q I h
  rw [hs]
  show wpAny _ _ (spliced ((false, eval e X.env) :: backTo pos (starEach es X.env))) _ _ s
  refine Calls.spliced_cons (thn (ha pins s σ H _ I h) fun u s1 ⟨x, H1, I1, r1, q1⟩ => ?_)
  exact thn (hr pos pins s1 σ H1 _ I1 q1) fun us s2 ⟨xs, H2, I2, r2, q2⟩ => ⟨x :: xs, H2, I2, .cons r1 r2, q2⟩

/-- a tuple, a list of written items -/
def tTup (t : TA) : TE := fun σ H Q => t σ H fun xs H1 => xs.length ≤ sizeLine ∧ ∀ p, H1 p = none → Q (.ref p) (upd H1 p (.tup xs))
def tLst (t : TA) : TE := fun σ H Q => t σ H fun xs H1 => xs.length ≤ sizeLine ∧ ∀ p, H1 p = none → Q (.ref p) (upd H1 p (.lst xs))
theorem pe_tup {x1} (h : PA X es t) : PE X (.Tuple es x1 pos) (tTup t) := by
  intro pins s σ H Q I hq
  refine wpAny_Tuple_spliced (thn (h pos pins s σ H _ I hq) fun us s1 ⟨xs, H1, I1, r, z, q⟩ => ⟨by rw [← r.length]; exact z, ?_⟩)
  have hf : H1 s1.heap.objs.size = none := I1.hok.fresh (Nat.le_refl _)
  refine ⟨.ref s1.heap.objs.size, upd H1 s1.heap.objs.size (.tup xs), I1.laid (t' := s1.toks) (fun b u e => Heap.get?_push_of_some _ e) (Nat.le_refl _) ?_, rfl, q _ hf⟩
  exact ⟨z, us, r, ⟨_, Heap.get?_push_size _ rfl, rfl, _, rfl⟩⟩
theorem pe_lst (h : PA X es t) : PE X (.List es pos) (tLst t) := by
  intro pins s σ H Q I hq
  refine wpAny_List_spliced (thn (h pos pins s σ H _ I hq) fun us s1 ⟨xs, H1, I1, r, z, q⟩ => ⟨by rw [← r.length]; exact z, ?_⟩)
  have hf : H1 s1.heap.objs.size = none := I1.hok.fresh (Nat.le_refl _)
  refine ⟨.ref s1.heap.objs.size, upd H1 s1.heap.objs.size (.lst xs), I1.laid (t' := s1.toks) (fun b u e => Heap.get?_push_of_some _ e) (Nat.le_refl _) ?_, rfl, q _ hf⟩
  exact ⟨z, us, 0, r, Heap.get?_push_size _ rfl⟩
end

/-! ### what a def promises -/
/-- a def's promise: the bound arguments in the parameters' order, the heap, the wanted end, the wanted exception -/
abbrev Sp := List V → Hp → VK → XK → Prop
/-- how an exception lies behind a call (file 08 gives it): the callers' frames, abstract heap and state ahead of the call, the wish, the exception, the state -/
abbrev CXT := List Env → Hp → Shared → XK → Value → Shared → Prop

/-- the state at a call -/
structure Env0 (P : Program) (w : World) (K : PySem.W.Frag) (mg : Str → Option Value) (base : Heap) (A : Around) (outer : List Env) (s : Shared) (H : Hp) : Prop where
  frames : A.frames = some outer
  mod : Mod K mg base
  bs : ∀ b o, base.get? b = some o → s.heap.get? b = some o ∧ H b = none
  bsz : base.objs.size ≤ s.heap.objs.size
  funs : s.heap.FunFrames base outer
  frf : ∀ b ∈ frs outer, H b = none
  hok : HOk P w H s.heap
  bare : AllBare s.gens
/-- a call's end -/
def CE (outer : List Env) (P : Program) (w : World) (H : Hp) (s : Shared) (Q : VK) (u : Value) (s' : Shared) : Prop :=
  ∃ v H', s'.os = s.os ∧ AllBare s'.gens ∧ Un (frs outer) [] H H' s.heap s'.heap ∧ HOk P w H' s'.heap ∧ RelV v u ∧ Q v H'
def CR (CX : CXT) (outer : List Env) (P : Program) (w : World) (H : Hp) (s : Shared) (Q : VK) (E : XK) (r : Result) (s' : Shared) : Prop :=
  match r with
  | .ok (.ret u) => CE outer P w H s Q u s'
  | .ok _ => False
  | .error e => CX outer H s E e s'
structure FnOk (P : Program) (w : World) (K : PySem.W.Frag) (mg : Str → Option Value) (base : Heap) (CX : CXT) (k : Nat) (f : Addr) (fd : FuncData) (ps : List Str) (sp : Sp) : Prop where
  len : ∀ vs H Q E, sp vs H Q E → vs.length = ps.length
  run : ∀ (A : Around) (outer : List Env) (s : Shared) (H : Hp) (args : Args) (us : List Value) (vs : List V) (Q : VK) (E : XK), Room k A → Env0 P w K mg base A outer s H → BindsTo s fd args (ps.zip us) → Vals vs us → sp vs H Q E →
    codeAny (model P w) A (.call (.ref f) args) (CR CX outer P w H s Q E) s
theorem FnOk.mono {P : Program} {w : World} {K : PySem.W.Frag} {mg : Str → Option Value} {base : Heap} {CX : CXT} {j k : Nat} {f : Addr} {fd : FuncData} {ps : List Str} {sp : Sp} (F : FnOk P w K mg base CX j f fd ps sp) (h : j ≤ k) :
    FnOk P w K mg base CX k f fd ps sp := ⟨F.len, fun A outer s H args us vs Q E hr => F.run A outer s H args us vs Q E (hr.mono h)⟩
/-- a weaker promise -/
theorem FnOk.imp {P : Program} {w : World} {K : PySem.W.Frag} {mg : Str → Option Value} {base : Heap} {CX : CXT} {k : Nat} {f : Addr} {fd : FuncData} {ps : List Str} {sp sp' : Sp} (F : FnOk P w K mg base CX k f fd ps sp)
    (h : ∀ vs H Q E, sp' vs H Q E → sp vs H Q E) : FnOk P w K mg base CX k f fd ps sp' :=
  ⟨fun vs H Q E q => F.len vs H Q E (h _ _ _ _ q), fun A outer s H args us vs Q E hr he hb hv hs => F.run A outer s H args us vs Q E hr he hb hv (h _ _ _ _ hs)⟩

theorem Env0.make {P : Program} {w : World} {K : PySem.W.Frag} {mg : Str → Option Value} {base : Heap} {A : Around} {outer : List Env} {s : Shared} {H : Hp} (e : Env0 P w K mg base A outer s H) (C : Addr) (us : List Value) (kw : List (Str × Value)) :
    Env0 P w K mg base (A.under (.builtin "type.__call__" ⟨.ref C :: us, kw⟩)) outer s H := ⟨by first | exact e.frames | (simpa [Around.under, Code.envs, Code.isFrame, pushEnvs] using e.frames), e.mod, e.bs, e.bsz, e.funs, e.frf, e.hok, e.bare⟩
theorem Env0.in1 {P : Program} {w : World} {K : PySem.W.Frag} {mg : Str → Option Value} {base : Heap} {A : Around} {outer : List Env} {s : Shared} {H : Hp} (e : Env0 P w K mg base A outer s H) :
    Env0 P w K mg base A.in1 outer s H := ⟨e.frames, e.mod, e.bs, e.bsz, e.funs, e.frf, e.hok, e.bare⟩

section
variable {X : Cx} {pins : List (Addr × Obj)} {σ : St} {H : Hp} {s s' : Shared}
/-- from a body: what a callee wants -/
theorem Inv.env0 (I : Inv X pins σ H s) : Env0 X.prog X.w X.K X.mg X.base X.A X.stack s H :=
  ⟨I.ok.frames, I.ok.mod, I.bs, Nat.le_trans I.ok.bsz I.sz, I.stack, I.stkFree, I.hok, I.bare⟩
/-- behind a call -/
theorem Inv.after {Q : VK} {u : Value} (I : Inv X pins σ H s) (h : CE X.stack X.prog X.w H s Q u s') : EP X pins σ Q u s' := by
  obtain ⟨v, H', os, bare, un, hok, r, q⟩ := h
  obtain ⟨hh, g, d, t, os'⟩ := s'
  obtain rfl : os' = s.os := os
  exact ⟨v, H', I.call (h' := hh) (g' := g) (d' := d) (t' := t) (ch := []) un hok bare (fun b z => absurd z (by simp)), r, q⟩
end

/-! ### calls -/
/-- f(..): the written arguments, then the defaults dvs; E: what is wanted of an exception -/
def tCall (sp : Sp) (dvs : List V) (E : XK) (t : TA) : TE := fun σ H Q => t σ H fun vs H1 => sp (vs ++ dvs) H1 Q E
/-- o.m(..) of an instance of the class at C -/
def tMeth (C : Addr) (m : Str) (sp : Sp) (dvs : List V) (E : XK) (ta : TE) (t : TA) : TE := fun σ H Q => ta σ H fun x H1 => ∃ a dx fs, x = .ref a ∧ H1 a = some (.ins C dx fs) ∧ fs.lookup m = none ∧
  t σ H1 fun vs H2 => sp (x :: (vs ++ dvs)) H2 Q E
/-- C(..): a new instance and its dict, then __init__ -/
def tMake (C : Addr) (sp : Sp) (dvs : List V) (E : XK) (t : TA) : TE := fun σ H Q => t σ H fun vs H1 => ∀ x dx, H1 x = none → H1 dx = none → dx ≠ x →
  sp (.ref x :: (vs ++ dvs)) (upd (upd H1 dx (.own x)) x (.ins C dx [])) (fun v H2 => v = .non ∧ Q (.ref x) H2) E

/-- how the parameters are bound: us the positional arguments, kw the keywords' values by name, ds the defaults that fill up -/
def Binds (K : PySem.W.Frag) (fd : FuncData) (ps : List Str) (ds : List Value) : Prop :=
  ∀ (s : Shared) (us : List Value), K.In s.heap → (us ++ ds).length = ps.length → BindsTo s fd ⟨us, []⟩ (ps.zip (us ++ ds))
/-- every parameter is given -/
theorem Binds.all {K : PySem.W.Frag} {fd : FuncData} {ps : List Str} (h : ∀ us : List Value, us.length = ps.length → bindArgs fd ⟨us, []⟩ = pure (ps.zip us)) : Binds K fd ps [] := fun s us _ hl => by
  rw [List.append_nil] at hl ⊢
  exact .of_eq (h us hl)

/-- an exception of a callee reaches what this body wants of exceptions -/
def Passes (CX : CXT) (X : Cx) (E : XK) : Prop := ∀ (pins : List (Addr × Obj)) (σ : St) (H : Hp) (s : Shared) (e : Value) (s' : Shared), Inv X pins σ H s → CX X.stack H s E e s' → X.xe e s'

section
variable {X : Cx} {CX : CXT} {k : Nat} {f C : Addr} {fd : FuncData} {ps : List Str} {sp : Sp} {dvs : List V} {ds : List Value} {E : XK} {x m : Str} {p pos apos : Pos} {e o : Expr} {es : List Expr} {ta : TE} {t : TA}

/-- the callee runs -/
theorem run_fn {pins : List (Addr × Obj)} {σ : St} {H : Hp} {s : Shared} {Q : VK} {us : List Value} {vs : List V} (F : FnOk X.prog X.w X.K X.mg X.base CX k f fd ps sp) (hr : Room k X.A) (hb : Binds X.K fd ps ds) (hd : Vals dvs ds) (hx : Passes CX X E)
    (I : Inv X pins σ H s) (r : Vals vs us) (h : sp (vs ++ dvs) H Q E) : wpAny (model X.prog X.w) X.A (call (.ref f) us) (EP X pins σ Q) X.xe s := by
  have r2 : Vals (vs ++ dvs) (us ++ ds) := r.append hd
  have hl : (us ++ ds).length = ps.length := by rw [← r2.length]; exact F.len _ _ _ _ h
  refine wpAny_call (codeAny_mono (F.run X.A X.stack s H ⟨us, []⟩ (us ++ ds) (vs ++ dvs) Q E hr I.env0 (hb s us I.kIn hl) r2 h) fun r s' hq => ?_)
  cases r with
  | error e => exact hx pins σ H s e s' I hq
  | ok fl =>
    cases fl with
    | ret u => exact I.after hq
    | next => exact False.elim hq
    | brk => exact False.elim hq
    | cont => exact False.elim hq

theorem pe_call (F : FnOk X.prog X.w X.K X.mg X.base CX k f fd ps sp) (hr : Room k X.A) (hg : Gl X x) (hm : X.mg x = some (.ref f)) (hk : PySem.W.keepIn X.K (.ref f) = true) (hb : Binds X.K fd ps ds) (hd : Vals dvs ds) (hx : Passes CX X E)
    (ha : PA X (e :: es) t) (hdb : (x == ("__debug__" : Str)) = false := by decide) (he : starEach (e :: es) X.env = (false, eval e X.env) :: starEach es X.env := by rfl) (hpl : (backTo pos (starEach es X.env)).any (·.1) = false := by rfl) :
    PE X (.Call (.Name x p) (e :: es) [] pos) (tCall sp dvs E t) := by
  intro pins s σ H Q I h
  refine wpAny_Call_Name_kw (ld_glob I hg hm ?_ hdb)
  refine PySem.W.callWith_K (h₀ := X.base) I.ok.mod.kin hk (thn (ha pos pins s σ H _ I h) fun us s1 ⟨vs, H1, I1, r, q⟩ => ⟨I1.kIn, ?_⟩) he hpl
  exact run_fn F hr hb hd hx I1 r q
/-- what a class must have to be made -/
structure Mk (K : PySem.W.Frag) (C f : Addr) : Prop where
  makes : PySem.W.makesIn K C = true
  init : PySem.W.findIn K (.ref C) "__init__" = some (some (.ref f))
  fn : PySem.W.isFn K (.ref f) = true
  kp : PySem.W.keepIn K (.ref C) = true

end

/-! ### keywords -/
/-- the values of the keywords, from the left -/
def PK (X : Cx) (kws : List Keyword) (t : TA) : Prop :=
  ∀ (pos : Pos) (pins : List (Addr × Obj)) (s : Shared) (σ : St) (H : Hp) (Q : List V → Hp → Prop), Inv X pins σ H s → t σ H Q → wpAny (model X.prog X.w) X.A (evalAll ((backToKw pos (keywordEach kws X.env)).map (·.2))) (AP X pins σ Q) X.xe s
section
variable {X : Cx} {CX : CXT} {k : Nat} {f C : Addr} {fd : FuncData} {ps ks : List Str} {sp : Sp} {E : XK} {x m : Str} {p pos apos kpos : Pos} {e o : Expr} {es : List Expr} {kws : List Keyword} {te ta : TE} {t tk : TA} {nm : Option Str}
/-- how a call with keywords binds: g puts the positional values us and the keywords' values ws (names ks) in the parameters' order, defaults among them -/
structure KBinds (K : PySem.W.Frag) (fd : FuncData) (ps ks : List Str) (g : List Value → List Value → List Value) (gV : List V → List V → List V) : Prop where
  to : ∀ (s : Shared) (us ws : List Value), K.In s.heap → (g us ws).length = ps.length → BindsTo s fd ⟨us, ks.zip ws⟩ (ps.zip (g us ws))
  rel : ∀ {vs : List V} {us : List Value} {zs : List V} {ws : List Value}, Vals vs us → Vals zs ws → Vals (gV vs zs) (g us ws)
def tCallK (sp : Sp) (gV : List V → List V → List V) (E : XK) (t tk : TA) : TE := fun σ H Q => t σ H fun vs H1 => tk σ H1 fun zs H2 => sp (gV vs zs) H2 Q E
variable {g : List Value → List Value → List Value} {gV : List V → List V → List V}
end

/-! ### a def's body keeps its promise -/
/-- names: the parameters first -/
structure FnScope (N P : List Str) (sc : Scope) : Prop where
  kind : sc.kind = .function
  co : sc.isCoroutine = false
  gen : sc.isGenerator = false
  nd : N.Nodup
  pre : N.take P.length = P
  par : ∀ x ∈ P, sc.names.lookup x = some .local ∨ sc.names.lookup x = some .cell
  nofree : ∀ y ∈ sc.names, y.2 ≠ .free

theorem bindL_out {kindOf : Str → Option NameKind} {x : Str} : ∀ {binds : List (Str × Value)} {m : Str → Option Value}, (∀ v, (x, v) ∉ binds) → bindL kindOf binds m x = m x
  | [], _, _ => rfl
  | (n, v) :: r, m, h => by
    unfold bindL
    rw [bindL_out fun w hw => h w (List.mem_cons_of_mem _ hw)]
    split
    · have : x ≠ n := by rintro rfl; exact h v List.mem_cons_self
      simp [this]
    · rfl
theorem bindC_out {kindOf : Str → Option NameKind} {x : Str} : ∀ {binds : List (Str × Value)} {m : Str → Option Value}, (∀ v, (x, v) ∉ binds) → bindC kindOf binds m x = m x
  | [], _, _ => rfl
  | (n, v) :: r, m, h => by
    unfold bindC
    rw [bindC_out fun w hw => h w (List.mem_cons_of_mem _ hw)]
    split
    · rfl
    · have : x ≠ n := by rintro rfl; exact h v List.mem_cons_self
      simp [this]
theorem bindL_get {kindOf : Str → Option NameKind} {x : Str} {v : Value} : ∀ {P : List Str} {vs : List Value} {i : Nat} {m : Str → Option Value}, P.Nodup → P[i]? = some x → vs[i]? = some v → kindOf x = some .local →
    bindL kindOf (P.zip vs) m x = some v
  | [], _, _, _, _, h, _, _ => by simp at h
  | _ :: _, [], _, _, _, _, h, _ => by simp at h
  | p :: P, w :: vs, 0, m, nd, h1, h2, hk => by
    simp at h1 h2; subst h1; subst h2
    show bindL kindOf ((p, w) :: P.zip vs) m p = _
    unfold bindL
    rw [bindL_out fun v hv => (List.nodup_cons.mp nd).1 (List.of_mem_zip hv).1, if_pos hk]
    simp
  | p :: P, w :: vs, i + 1, m, nd, h1, h2, hk => by
    show bindL kindOf ((p, w) :: P.zip vs) m x = _
    unfold bindL
    exact bindL_get (i := i) (List.nodup_cons.mp nd).2 (by simpa using h1) (by simpa using h2) hk
theorem bindC_get {kindOf : Str → Option NameKind} {x : Str} {v : Value} : ∀ {P : List Str} {vs : List Value} {i : Nat} {m : Str → Option Value}, P.Nodup → P[i]? = some x → vs[i]? = some v → kindOf x ≠ some .local →
    bindC kindOf (P.zip vs) m x = some v
  | [], _, _, _, _, h, _, _ => by simp at h
  | _ :: _, [], _, _, _, _, h, _ => by simp at h
  | p :: P, w :: vs, 0, m, nd, h1, h2, hk => by
    simp at h1 h2; subst h1; subst h2
    show bindC kindOf ((p, w) :: P.zip vs) m p = _
    unfold bindC
    rw [bindC_out fun v hv => (List.nodup_cons.mp nd).1 (List.of_mem_zip hv).1, if_neg hk]
    simp
  | p :: P, w :: vs, i + 1, m, nd, h1, h2, hk => by
    show bindC kindOf ((p, w) :: P.zip vs) m x = _
    unfold bindC
    exact bindC_get (i := i) (List.nodup_cons.mp nd).2 (by simpa using h1) (by simpa using h2) hk

/-- the names' values at the entry -/
def start (N : List Str) (vs : List V) : St := vs.map some ++ List.replicate (N.length - vs.length) none

/-- the context of a def's body, at its entry; an exception leaves the frame, then lies as CX says -/
def cxOf (CX : CXT) (P : Program) (w : World) (K : PySem.W.Frag) (mg : Str → Option Value) (base : Heap) (N : List Str) (qual : Str) (scope : Scope) (f : Addr) (cd : Value) (A : Around) (outer : List Env) (s : Shared) (H : Hp) (E : XK) : Cx where
  prog := P
  w := w
  K := K
  mg := mg
  base := base
  A := A.deeper (envOfC qual scope s.heap.objs.size f cd)
  N := N
  s₀ := s
  H₀ := H
  env := envOfC qual scope s.heap.objs.size f cd
  outer := outer
  stack := envOfC qual scope s.heap.objs.size f cd :: outer
  ex := []
  calm := true
  fn := fun _ => true
  pn := []
  xe := fun e s' => wpAny (model P w) (A.deeper (envOfC qual scope s.heap.objs.size f cd)) (leaving (envOfC qual scope s.heap.objs.size f cd) e) (fun _ s'' => CX outer H s E e s'') (fun e' s'' => CX outer H s E e' s'') s'

theorem cell_has {sc : Scope} {n : Nat} {x : Str} (h : sc.names.lookup x = some .cell) : ∃ c, (cellsFrom n sc.names []).lookup x = some c := by
  have q := PySem.W.cellsFrom_some sc.names n [] (.inl h)
  exact Option.isSome_iff_exists.mp q

theorem inv_start {CX : CXT} {P : Program} {w : World} {K : PySem.W.Frag} {mg : Str → Option Value} {base : Heap} {N ps : List Str} {qual : Str} {scope : Scope} {f : Addr} {cd : Value} {A : Around} {outer : List Env} {s s1 : Shared} {H : Hp} {E : XK} {us : List Value} {vs : List V}
    (S : FnScope N ps scope) (hd : A.handled = none) (e0 : Env0 P w K mg base A outer s H) (hl : vs.length = ps.length) (r : Vals vs us)
    (x : InCallC s s.heap.objs.size (bindL (envOfC qual scope s.heap.objs.size f cd).kindOf (ps.zip us) fun _ => none) (cellsFrom (s.heap.objs.size + 1) scope.names []) (bindC (envOfC qual scope s.heap.objs.size f cd).kindOf (ps.zip us) fun _ => none) s1) :
    Inv (cxOf CX P w K mg base N qual scope f cd A outer s H E) [] (start N vs) H s1 := by
  have hpl : ps.length ≤ N.length := by have := congrArg List.length S.pre; rw [List.length_take] at this; omega
  obtain ⟨h1, tk, rfl, hk⟩ := x.done
  have noA : ∀ b : Addr, b ∉ (cxOf CX P w K mg base N qual scope f cd A outer s H E).ex := fun b z => absurd (show b ∈ ([] : List Addr) from z) (by simp)
  refine ⟨⟨e0.mod, S.kind, rfl, rfl, Nat.le_refl _, fun y z c h1 h2 => ?_, fun y hy => ?_, fun y c _ h => ?_, fun _ => hd, Around.frames_deeper e0.frames, .inr ⟨rfl, rfl⟩, fun b z => absurd z (noA b), e0.bs, e0.bsz, fun b _ _ => noA b, fun b z => absurd z (noA b), e0.funs, e0.frf⟩,
    rfl, e0.bare, Un.kept hk, ⟨_, x.toInCall.ns, fun i y v h1 h2 h3 => ?_⟩, fun y c h => ⟨_, x.cell y c h⟩, e0.hok.fresh (Nat.le_refl _), fun y c h => ?_, fun p hp => absurd (show p ∈ ([] : List (Addr × Obj)) from hp) (by simp), e0.hok.kept hk, ?_⟩
  · exact name_of_addr x.apart (PySem.mem_of_lookup h1) (PySem.mem_of_lookup h2)
  · have hy : scope.names.lookup y = some .cell ∨ scope.names.lookup y = some .free := hy
    rcases hy with hy | hy
    · exact cell_has hy
    · exact absurd rfl (S.nofree _ (PySem.mem_of_lookup hy))
  · exact Nat.le_of_lt (x.above y c (PySem.mem_of_lookup h))
  · have hi : i < vs.length := by
      unfold start at h2
      by_cases hi : i < vs.length
      · exact hi
      · rw [List.getElem?_append_right (by simpa using hi)] at h2
        rw [List.getElem?_replicate] at h2
        split at h2 <;> cases h2
    have ha : vs[i]? = some v := by
      unfold start at h2
      rw [List.getElem?_append_left (by simpa using hi), List.getElem?_map] at h2
      cases e : vs[i]? with
      | none => rw [e] at h2; cases h2
      | some a => rw [e] at h2; cases h2; rfl
    obtain ⟨u, hu, rv⟩ := r.get ha
    have hp : ps[i]? = some y := by
      rw [← S.pre, List.getElem?_take_of_lt (by omega)]; exact h1
    have ndP : ps.Nodup := by rw [← S.pre]; exact S.nd.sublist (List.take_sublist _ _)
    refine ⟨u, rv, ?_⟩
    rcases S.par y (List.mem_of_getElem? hp) with k | k
    · exact .inl ⟨k, bindL_get ndP hp hu k⟩
    · obtain ⟨c, e⟩ := cell_has (n := s.heap.objs.size + 1) k
      refine .inr ⟨.inl k, c, e, ?_⟩
      have q := x.cell y c e
      rw [bindC_get ndP hp hu (by show scope.names.lookup y ≠ _; rw [k]; decide)] at q
      exact q
  · exact e0.hok.fresh (Nat.le_of_lt (x.above y c (PySem.mem_of_lookup h)))
  · unfold start
    show _ = N.length
    rw [List.length_append, List.length_map, List.length_replicate]
    omega

/-- THE RULE: a def (or a method) of the text, by its body. The body's reading t is chosen for each entry; it is run at the parameters' values -/
theorem fn_of {CX : CXT} {P : Program} {w : World} {K : PySem.W.Frag} {mg : Str → Option Value} {base : Heap} {k : Nat} {f : Addr} {name qual : Str} {params : Arguments} {body : List Stmt} {scope : Scope} {dV kV doc pm cdv ct oc : Value} {an od : Option Addr}
    {osl : Array (Option Value)} {N ps : List Str} {sp : Sp} (lk : K.lookup f = some ⟨oc, od, .func (PySem.W.fnOf name qual params body scope dV kV doc pm an cdv ct), osl⟩) (hcd : PySem.W.codeIn K cdv qual = true) (S : FnScope N ps scope)
    (len : ∀ vs H Q E, sp vs H Q E → vs.length = ps.length)
    (hbody : ∀ (A : Around) (outer : List Env) (s : Shared) (H : Hp) (vs : List V) (Q : VK) (E : XK), Room k (A.deeper (envOfC qual scope s.heap.objs.size f cdv)) → sp vs H Q E →
      ∃ t, PSs (cxOf CX P w K mg base N qual scope f cdv A outer s H E) body t ∧ t { nx := fun _ H' => Q .non H', rt := Q } (start N vs) H) :
    FnOk P w K mg base CX (k + 1) f (PySem.W.fnOf name qual params body scope dV kV doc pm an cdv ct) ps sp := by
  refine ⟨len, fun A outer s H args us vs Q E hr e0 hb r hsp => ?_⟩
  have hl := len _ _ _ _ hsp
  have KX : K.In s.heap := e0.mod.kin.keeps fun b o e => (e0.bs b o e).1
  have lim : s.heap.NoLimit := e0.mod.nolimit.keeps fun b o e => (e0.bs b o e).1
  have hkind : ∀ y ∈ ps.zip us, scope.names.lookup y.1 = some .local ∨ (scope.names.lookup y.1 = some .cell ∧ ((cellsFrom (s.heap.objs.size + 1) scope.names []).lookup y.1).isSome = true) := fun ⟨n, v⟩ hy => by
    rcases S.par n (List.of_mem_zip hy).1 with q | q
    · exact .inl q
    · exact .inr ⟨q, PySem.W.cellsFrom_some _ _ _ (.inl q)⟩
  refine codeAny_call_function hr.depth (KX _ _ lk) rfl S.co S.gen rfl (PySem.W.codeRec_of KX hcd) (hb _ _ _ _ ?_)
  refine wpAny_newFunctionEnv_cells S.kind hkind fun env he s1 x => ?_
  subst he
  refine ⟨lim.keeps x.toInCall.keep, codeAny_func ?_⟩
  obtain ⟨t, ht, hq⟩ := hbody A outer s H vs Q E (hr.deeper _) hsp
  have I : Inv (cxOf CX P w K mg base N qual scope f cdv A outer s H E) [] (start N vs) H s1 := inv_start S hr.hd e0 hl r x
  refine wpAny_mono (ht [] s1 (start N vs) H _ I hq) (fun fl s' hs => ?_) fun e s' hs => hs
  have fin : ∀ {σ' : St} {H' : Hp} {v : V} {u : Value}, Inv (cxOf CX P w K mg base N qual scope f cdv A outer s H E) [] σ' H' s' → RelV v u → Q v H' → CE outer P w H s Q u s' :=
    fun {σ' H' v u} J rv q => ⟨v, H', J.os, J.bare, J.base, J.hok, rv, q⟩
  cases fl with
  | ret u =>
    obtain ⟨v, σ', H', J, rv, q⟩ := hs
    exact fin J rv q
  | next =>
    obtain ⟨σ', H', J, q⟩ := hs
    exact fin (v := V.non) (u := Value.none) J rfl q
  | brk =>
    obtain ⟨_, _, _, q⟩ := hs
    exact False.elim q
  | cont =>
    obtain ⟨_, _, _, q⟩ := hs
    exact False.elim q
end L2

namespace L2
open PySem PySem.Spec PyProof.Rows
section
variable {X : Cx} {x : Str} {p pos : Pos} {e : Expr} {es : List Expr} {t : TA} {id T : String} {r : List V → Hp → VK → Prop}

def tCB (r : List V → Hp → VK → Prop) (t : TA) : TE := fun σ H Q => t σ H fun vs H1 => r vs H1 Q
/-- f(e, ..), f a built-in function -/
theorem pe_callB (hc : CallR X (.builtin id) r) (hg : Gl X x) (hm : X.mg x = none) (hv : bootBuiltins x = some (.builtin id)) (ha : PA X (e :: es) t) (hn : x ≠ "__name__" := by decide) (hdb : (x == ("__debug__" : Str)) = false := by decide)
    (he : starEach (e :: es) X.env = (false, eval e X.env) :: starEach es X.env := by rfl) (hpl : (backTo pos (starEach es X.env)).any (·.1) = false := by rfl) : PE X (.Call (.Name x p) (e :: es) [] pos) (tCB r t) := by
  intro pins s σ H Q I h
  refine wpAny_Call_Name_kw (ld_blt I hg hm hv ?_ hn hdb)
  exact PyProof.Rows.callWith_builtin1 (thn (ha pos pins s σ H _ I h) fun us s1 ⟨vs, H1, I1, r1, q1⟩ => hc pins s1 σ H1 vs us Q I1 r1 q1) he hpl
end
end L2

namespace HT
open PySem PyProof.Rows

/-- t < u of tuples of ints -/
def lexLt : List Int → List Int → Bool
  | [], [] => false
  | [], _ :: _ => true
  | _ :: _, [] => false
  | x :: xs, y :: ys => if x = y then lexLt xs ys else decide (x < y)
section
open PySem.SeqAt
open PySem.AutoSeq1 (wpAny_loadPart')
open PySem.MeetsSeq PySem.MeetsSeq2 PySem.MeetsSeq3

end

section
variable {prog : Program} {w : World} {A : Around} {E : Value → Shared → Prop} {s : Shared}

/-! ### t[a:b], not the whole -/
/-- a slice's bound as a place among n (d where it is left out) -/
def sIx (n d : Nat) : Option Int → Nat
  | none => d
  | some v => if v < 0 then (v + (n : Int)).toNat else min v.toNat n
end
end HT

namespace L2
open PySem PySem.Spec PyProof.Rows

/-! ### the parts of a slice -/
abbrev TO := St → Hp → (Option Int → Hp → Prop) → Prop
/-- a slice's part (left out, or an int) -/
def PO (X : Cx) (e : Option Expr) (t : TO) : Prop :=
  ∀ (pins : List (Addr × Obj)) (s : Shared) (σ : St) (H : Hp) (Q : Option Int → Hp → Prop), Inv X pins σ H s → t σ H Q →
    wpAny (model X.prog X.w) X.A (evalPart e X.env) (fun u s' => ∃ o H', Inv X pins σ H' s' ∧ IsPart u o ∧ Q o H') X.xe s
def tNoPart : TO := fun _ H Q => Q none H
def tPart (t : TE) : TO := fun σ H Q => t σ H fun x H1 => ∃ i, x = .int i ∧ Q (some i) H1

section
variable {X : Cx} {e : Expr} {te : TE} {lo hi : Option Expr} {tl th : TO} {pos p2 : Pos}

theorem po_none : PO X none tNoPart := by
  intro pins s σ H Q I h
  rw [evalPart_none]
  exact wpAny_pure ⟨none, H, I, .none, h⟩
theorem po_some (h : PE X e te) : PO X (some e) (tPart te) := by
  intro pins s σ H Q I hw
  rw [evalPart_some]
  refine thn (h pins s σ H _ I hw) fun u s1 ⟨x, H1, I1, r1, q1⟩ => ?_
  obtain ⟨i, rfl, q⟩ := q1
  obtain ⟨t, rfl⟩ := r1
  exact ⟨some i, H1, I1, .int i t, q⟩

/-- what a slice of a value is, by values: the slice object stands at sl -/
def SlR (X : Cx) (r : V → Option Int → Option Int → Hp → VK → Prop) : Prop :=
  ∀ (pins : List (Addr × Obj)) (s : Shared) (σ : St) (H : Hp) (x : V) (v vl vu : Value) (lo hi : Option Int) (sl : Addr) (Q : VK), Inv X pins σ H s → RelV x v → s.heap.IsSliceOf sl vl vu .none → IsPart vl lo → IsPart vu hi → r x lo hi H Q →
    ∃ T id, typeLookup (.type T) "__getitem__" = pure (some (.builtin id)) ∧ s.TypeIs v T ∧ wpAny (model X.prog X.w) X.A (getItem v (.ref sl)) (EP X pins σ Q) X.xe s
theorem SlR.or {r r' : V → Option Int → Option Int → Hp → VK → Prop} (h : SlR X r) (h' : SlR X r') : SlR X (fun x lo hi H Q => r x lo hi H Q ∨ r' x lo hi H Q) := by
  intro pins s σ H x v vl vu lo hi sl Q I rx hs pl pu q
  rcases q with q | q
  · exact h pins s σ H x v vl vu lo hi sl Q I rx hs pl pu q
  · exact h' pins s σ H x v vl vu lo hi sl Q I rx hs pl pu q
def tSl (r : V → Option Int → Option Int → Hp → VK → Prop) (te : TE) (tl th : TO) : TE := fun σ H Q => te σ H fun x H1 => tl σ H1 fun l H2 => th σ H2 fun u H3 => r x l u H3 Q
/-- a[lo:hi], any a -/
theorem pe_slice {r : V → Option Int → Option Int → Hp → VK → Prop} (hr : SlR X r) (he : PE X e te) (hl : PO X lo tl) (hu : PO X hi th) : PE X (.Subscript e (.Slice lo hi none p2) pos) (tSl r te tl th) := by
  intro pins s σ H Q I h
  refine Subscript_ (thn (he pins s σ H _ I h) fun v s1 ⟨x, H1, I1, r1, q1⟩ => ?_)
  refine wpAny_Slice (thn (hl pins s1 σ H1 _ I1 q1) fun vl s2 ⟨l, H2, I2, pl, q2⟩ => thn (hu pins s2 σ H2 _ I2 q2) fun vu s3 ⟨u, H3, I3, pu, q3⟩ => ?_)
  rw [evalPart_none]
  refine wpAny_pure ?_
  have I4 : Inv X pins σ H3 { s3 with heap := s3.heap.push { cls := .type "slice", data := .fields #[vl, vu, .none] } } := I3.kept (t' := s3.toks) fun b ob q => Heap.get?_push_of_some _ q
  obtain ⟨T, id, hT, ht, hg⟩ := hr pins { s3 with heap := s3.heap.push { cls := .type "slice", data := .fields #[vl, vu, .none] } } σ H3 x v vl vu l u s3.heap.objs.size Q I4 r1 (Heap.IsSliceOf.new ..) pl pu q3
  show wpAny (model X.prog X.w) X.A (subscriptTail e (.Slice lo hi none p2) v (.ref s3.heap.objs.size)) (EP X pins σ Q) X.xe { s3 with heap := s3.heap.push { cls := .type "slice", data := .fields #[vl, vu, .none] } }
  exact tail_any (ops := [.ref s3.heap.objs.size, v]) ht hT hg (by with_unfolding_all rfl)

/-- the items of xs[lo:hi] -/
def cutV (xs : List V) (lo hi : Option Int) : List V := (xs.drop (HT.sIx xs.length 0 lo)).take (HT.sIx xs.length xs.length hi - HT.sIx xs.length 0 lo)
theorem cutV_length (xs : List V) (lo hi : Option Int) : (cutV xs lo hi).length ≤ xs.length := by
  unfold cutV
  rw [List.length_take, List.length_drop]
  omega
/-- t[lo:hi], not the whole of it (the whole would be t itself) -/
def rSlT (K : PySem.W.Frag) : V → Option Int → Option Int → Hp → VK → Prop := fun x lo hi H Q => ∃ a xs, x = .ref a ∧ SqT K H a xs ∧
  ¬ (HT.sIx xs.length 0 lo = 0 ∧ HT.sIx xs.length xs.length hi = xs.length) ∧ ∀ p, H p = none → Q (.ref p) (upd H p (.tup (cutV xs lo hi)))
/-! ### t < u, t + u -/
def rLtT (K : PySem.W.Frag) : R2 := fun x y H Q => ∃ a b ns ms, x = .ref a ∧ y = .ref b ∧ SqT K H a (ns.map V.int) ∧ SqT K H b (ms.map V.int) ∧ Q (.bl (HT.lexLt ns ms)) H
/-- t + u, t not empty: u empty gives t itself -/
def rCatT (K : PySem.W.Frag) : R2 := fun x y H Q => ∃ a b xs ys, x = .ref a ∧ y = .ref b ∧ SqT K H a xs ∧ SqT K H b ys ∧ xs ≠ [] ∧ xs.length + ys.length ≤ sizeLine ∧
  (ys = [] → Q (.ref a) H) ∧ (ys ≠ [] → ∀ p, H p = none → Q (.ref p) (upd H p (.tup (xs ++ ys))))
end
end L2

namespace L2
open PySem PySem.Spec PyProof.Rows

/-! ### places -/
/-- the place that an index of any sign means -/
def ixN (n : Nat) (i : Int) : Option Nat := if 0 ≤ i then (if i < n then some i.toNat else none) else if -(n : Int) ≤ i then some (i + n).toNat else none
def atI {α : Type} (xs : List α) (i : Int) : Option α := (ixN xs.length i).bind fun j => xs[j]?
theorem ixN_seq {n : Nat} {i : Int} {j : Nat} (h : ixN n i = some j) : seqIndex? i n = some j ∧ j < n ∧ -(n : Int) ≤ i ∧ i < n := by
  unfold ixN at h
  by_cases h0 : 0 ≤ i
  · rw [if_pos h0] at h
    by_cases h1 : i < n
    · rw [if_pos h1] at h
      have e : i.toNat = j := Option.some.inj h
      exact ⟨by rw [seqIndex_of h0 h1, e], by omega, by omega, h1⟩
    · rw [if_neg h1] at h; cases h
  · rw [if_neg h0] at h
    by_cases h1 : -(n : Int) ≤ i
    · rw [if_pos h1] at h
      have e : (i + n).toNat = j := Option.some.inj h
      exact ⟨by rw [seqIndex_neg (by omega) h1, e], by omega, h1, by omega⟩
    · rw [if_neg h1] at h; cases h
theorem atI_get {α : Type} {xs : List α} {i : Int} {v : α} (h : atI xs i = some v) : ∃ j, seqIndex? i xs.length = some j ∧ xs[j]? = some v ∧ j < xs.length ∧ -(xs.length : Int) ≤ i ∧ i < xs.length := by
  unfold atI at h
  cases e : ixN xs.length i with
  | none => rw [e] at h; cases h
  | some j =>
    rw [e] at h
    obtain ⟨h1, h2, h3, h4⟩ := ixN_seq e
    exact ⟨j, h1, h, h2, h3, h4⟩
/-! ### what may be subscripted -/
/-- what stands as an index of a plain subscript -/
def PlainIx (b : Expr) : Prop := ∀ o i, subscripted b false o i = operate [o, i] (getItem o i)
/-- a subscript by values -/
def IxR (X : Cx) (r : R2) : Prop :=
  ∀ (value slice : Expr) (pins : List (Addr × Obj)) (s : Shared) (σ : St) (H : Hp) (x y : V) (v u : Value) (Q : VK), Inv X pins σ H s → RelV x v → RelV y u → r x y H Q →
    subscripted slice false v u = operate [v, u] (getItem v u) → wpAny (model X.prog X.w) X.A (subscriptTail value slice v u) (EP X pins σ Q) X.xe s
/-- a call of a builtin's method by values: the receiver, the arguments -/
def MtR (X : Cx) (id : String) (r : V → List V → Hp → VK → Prop) : Prop :=
  ∀ (pins : List (Addr × Obj)) (s : Shared) (σ : St) (H : Hp) (x : V) (xs : List V) (v : Value) (us : List Value) (Q : VK), Inv X pins σ H s → RelV x v → Vals xs us → r x xs H Q →
    wpAny (model X.prog X.w) X.A (call (.builtin id) (v :: us)) (EP X pins σ Q) X.xe s
section
variable {X : Cx} {a b : Expr} {ta tb : TE} {pos : Pos}
theorem IxR.or {r r' : R2} (h : IxR X r) (h' : IxR X r') : IxR X (fun x y H Q => r x y H Q ∨ r' x y H Q) := by
  intro value slice pins s σ H x y v u Q I rx ry q hs
  rcases q with q | q
  · exact h value slice pins s σ H x y v u Q I rx ry q hs
  · exact h' value slice pins s σ H x y v u Q I rx ry q hs
theorem MtR.or {id : String} {r r' : V → List V → Hp → VK → Prop} (h : MtR X id r) (h' : MtR X id r') : MtR X id (fun x xs H Q => r x xs H Q ∨ r' x xs H Q) := by
  intro pins s σ H x xs v us Q I rx rs q
  rcases q with q | q
  · exact h pins s σ H x xs v us Q I rx rs q
  · exact h' pins s σ H x xs v us Q I rx rs q
/-- a[b] -/
theorem pe_ix {r : R2} (hr : IxR X r) (ha : PE X a ta) (hb : PE X b tb) (hs : PlainIx b) : PE X (.Subscript a b pos) (tOp r ta tb) := by
  intro pins s σ H Q I h
  exact Subscript_ (binT ha hb I h fun v u s2 x y H2 I2 rx ry q => hr a b pins s2 σ H2 x y v u Q I2 rx ry q (hs _ _))

def rIxL (K : PySem.W.Frag) : R2 := fun x y H Q => ∃ p xs i v, x = .ref p ∧ y = .int i ∧ SqL K H p xs ∧ atI xs i = some v ∧ Q v H
def rIxT (K : PySem.W.Frag) : R2 := fun x y H Q => ∃ p xs i v, x = .ref p ∧ y = .int i ∧ SqT K H p xs ∧ atI xs i = some v ∧ Q v H
def rIxS : R2 := fun x y H Q => ∃ z i c, x = .str z ∧ y = .int i ∧ z.length ≤ sizeLine ∧ atI z.cps.toList i = some c ∧ Q (.str ⟨#[c]⟩) H
theorem ix_list : IxR X (rIxL X.K) := by
  intro value slice pins s σ H x y v u Q I rx ry h hs
  obtain ⟨p, xs, i, z, rfl, rfl, hq, he, q⟩ := h
  cases rx
  obtain ⟨t, rfl⟩ := ry
  obtain ⟨its, r, pl, hz⟩ := I.list hq
  obtain ⟨j, h1, h2, h3, h4, h5⟩ := atI_get he
  obtain ⟨w, ew, rw'⟩ := r.get h2
  have hl := r.length
  have hn := line63
  have fin : EP X pins σ Q w s := ⟨z, H, I, rw', q⟩
  by_cases h0 : 0 ≤ i
  · have hj : i.toNat = j := by
      rw [seqIndex_of h0 h5] at h1
      exact Option.some.inj h1
    exact item_listR pl.isList h0 (by omega) (by rw [hj]; simpa using ew) fin hs
  · have hj : (i + (its.toArray.size : Int)).toNat = j := by
      rw [seqIndex_neg (by omega) h4] at h1
      rw [List.size_toArray, ← hl]
      exact Option.some.inj h1
    exact subscriptTail_builtinR (x := w) pl.isList.typeIs slot_list_getitem.lookup
      (wpAny_getItem_list_neg (Q := fun r s' => r = w ∧ EP X pins σ Q r s') pl.isList (by omega) (by rw [List.size_toArray] <;> omega) (by omega) (by rw [hj]; simpa using ew) ⟨rfl, fin⟩) hs
theorem ix_tup : IxR X (rIxT X.K) := by
  intro value slice pins s σ H x y v u Q I rx ry h hs
  obtain ⟨p, xs, i, z, rfl, rfl, hq, he, q⟩ := h
  cases rx
  obtain ⟨t, rfl⟩ := ry
  obtain ⟨its, r, pl, hz⟩ := I.tuple hq
  obtain ⟨j, h1, h2, h3, h4, h5⟩ := atI_get he
  obtain ⟨w, ew, rw'⟩ := r.get h2
  have hl := r.length
  have hn := line63
  have fin : EP X pins σ Q w s := ⟨z, H, I, rw', q⟩
  exact subscriptTail_builtinR (x := w) pl.typeIs slot_tuple_getitem.lookup
    (getItem_tuple (j := j) (Q := fun r s' => r = w ∧ EP X pins σ Q r s') pl (by omega) (by omega) (by rw [List.size_toArray, ← hl]; exact h1) (by simpa using ew) ⟨rfl, fin⟩) hs
theorem ix_str : IxR X rIxS := by
  intro value slice pins s σ H x y v u Q I rx ry h hs
  obtain ⟨z, i, c, rfl, rfl, hz, he, q⟩ := h
  obtain ⟨t, rfl⟩ := rx
  obtain ⟨t', rfl⟩ := ry
  obtain ⟨j, h1, h2, h3, h4, h5⟩ := atI_get he
  have hl : z.cps.toList.length = z.length := by simp [Str.length]
  rw [hl] at h1 h4 h5
  have hn := line63
  exact tail_any (typeIs_str s z t) slot_str_getitem.lookup (getItem_str (c := c) (by
    have e1 : decide (i < -(2 ^ 63 : Int)) = false := decide_eq_false (by omega)
    have e2 : decide (i ≥ 2 ^ 63) = false := decide_eq_false (by omega)
    rw [e1, e2, Bool.or_false]) (by rw [h1]; simpa using h2) ⟨.str ⟨#[c]⟩, H, I.tok _, ⟨_, rfl⟩, q⟩) hs
/-- list, tuple or str -/
def rIx (K : PySem.W.Frag) : R2 := fun x y H Q => rIxL K x y H Q ∨ rIxT K x y H Q ∨ rIxS x y H Q
theorem ix_seq : IxR X (rIx X.K) := ix_list.or (ix_tup.or ix_str)

/-! ### xs[i] = v, any sign -/
theorem Inv.lst {pins : List (Addr × Obj)} {σ : St} {H : Hp} {s : Shared} {p : Addr} {xs : List V} (I : Inv X pins σ H s) (h : H p = some (.lst xs)) :
    ∃ (its : List Value) (n : Nat), Vals xs its ∧ s.heap.get? p = some { cls := .type "list", data := .seq its.toArray n } ∧ xs.length ≤ sizeLine := by
  obtain ⟨z, its, n, r, e⟩ := I.hok p _ h
  exact ⟨its, n, r, e, z⟩
def rSetL : V → V → V → Hp → (Hp → Prop) → Prop := fun o i v H Q => ∃ p xs k j, o = .ref p ∧ i = .int k ∧ H p = some (.lst xs) ∧ ixN xs.length k = some j ∧ Q (upd H p (.lst (xs.set j v)))
/-! ### slices -/
theorem slice_bounds (lo hi : Option Int) (n : Nat) : (sliceBounds lo hi none n).1 = ((HT.sIx n 0 lo : Nat) : Int) ∧ (sliceBounds lo hi none n).2.1 = ((HT.sIx n n hi : Nat) : Int) ∧ (sliceBounds lo hi none n).2.2 = 1 := by
  refine ⟨?_, ?_, rfl⟩
  · cases lo with
    | none => simp [sliceBounds, HT.sIx]
    | some i =>
      simp only [sliceBounds, HT.sIx, Option.getD_none, show (1 : Int) > 0 by decide, if_true]
      by_cases h : i < 0
      · simp only [h, if_true] <;> omega
      · simp only [h, if_false] <;> omega
  · cases hi with
    | none => simp [sliceBounds, HT.sIx]
    | some i =>
      simp only [sliceBounds, HT.sIx, Option.getD_none, show (1 : Int) > 0 by decide, if_true]
      by_cases h : i < 0
      · simp only [h, if_true] <;> omega
      · simp only [h, if_false] <;> omega
theorem slicePick_cut (its : List Value) (lo hi : Option Int) : slicePick its.toArray lo hi none = ((its.drop (HT.sIx its.length 0 lo)).take (HT.sIx its.length its.length hi - HT.sIx its.length 0 lo)).toArray := by
  obtain ⟨h1, h2, h3⟩ := slice_bounds lo hi its.toArray.size
  unfold slicePick
  rw [h1, h2, h3]
  simp only [sliceRange_one, pick_run, List.size_toArray] <;> rfl
/-- xs[lo:hi] of a list: a new list -/
def rSlL (K : PySem.W.Frag) : V → Option Int → Option Int → Hp → VK → Prop := fun x lo hi H Q => ∃ a xs, x = .ref a ∧ SqL K H a xs ∧ ∀ p, H p = none → Q (.ref p) (upd H p (.lst (cutV xs lo hi)))
theorem sl_list : SlR X (rSlL X.K) := by
  intro pins s σ H x v vl vu lo hi sl Q I rx hs pl pu h
  obtain ⟨a, xs, rfl, hx, q⟩ := h
  cases rx
  obtain ⟨its, r, ht, hz⟩ := I.list hx
  have hlen := r.length
  refine ⟨"list", _, slot_list_getitem.lookup, ht.isList.typeIs, ?_⟩
  refine wpAny_getItem_list_slice ht.isList hs pl pu .none (by simp) ?_ (by rw [List.size_toArray] <;> omega)
  rw [slicePick_cut, ← hlen]
  refine ⟨.ref s.heap.objs.size, _, I.laid (t' := s.toks) (o := .lst (cutV xs lo hi)) (fun b ob q => Heap.get?_push_of_some _ q) (Nat.le_refl _) ?_, rfl, q _ (I.hok.fresh (Nat.le_refl _))⟩
  exact ⟨Nat.le_trans (cutV_length xs lo hi) hz, _, 0, (r.drop (HT.sIx xs.length 0 lo)).take (HT.sIx xs.length xs.length hi - HT.sIx xs.length 0 lo), Heap.get?_push_size _ rfl⟩

/-! ### in, not in: flat items -/
def flatV : V → Bool
  | .non => true
  | .bl _ => true
  | .int _ => true
  | .str _ => true
  | _ => false
/-- == of flat values -/
def eqV : V → V → Bool
  | .non, .non => true
  | .bl a, .bl b => a == b
  | .bl a, .int b => (if a then 1 else 0) == b
  | .int a, .bl b => a == (if b then 1 else 0)
  | .int a, .int b => a == b
  | .str a, .str b => a == b
  | _, _ => false
theorem eqAt_V {A : Around} {s : Shared} {y x : V} {u v : Value} (ry : RelV y u) (rx : RelV x v) (fy : flatV y = true) (fx : flatV x = true) : SeqAt.EqAt A s u v (eqV y x) := by
  cases y with
  | non =>
    cases ry
    cases x with
    | non => cases rx; exact SeqAt.EqAt.same _
    | bl b => cases rx; exact SeqAt.EqAt.none_bool b
    | int b => obtain ⟨t, rfl⟩ := rx; exact SeqAt.EqAt.none_int b t
    | str b => obtain ⟨t, rfl⟩ := rx; exact SeqAt.EqAt.none_str b t
    | _ => exact absurd (show false = true from fx) Bool.false_ne_true
  | bl a =>
    cases ry
    cases x with
    | non => cases rx; exact SeqAt.EqAt.bool_none a
    | bl b => cases rx; exact SeqAt.EqAt.bool_bool a b
    | int b => obtain ⟨t, rfl⟩ := rx; exact SeqAt.EqAt.bool_int a b t
    | str b => obtain ⟨t, rfl⟩ := rx; exact SeqAt.EqAt.bool_str a b t
    | _ => exact absurd (show false = true from fx) Bool.false_ne_true
  | int a =>
    obtain ⟨t', rfl⟩ := ry
    cases x with
    | non => cases rx; exact SeqAt.EqAt.int_none a t'
    | bl b => cases rx; exact SeqAt.EqAt.int_bool a t' b
    | int b => obtain ⟨t, rfl⟩ := rx; exact SeqAt.EqAt.int_int a t' b t
    | str b => obtain ⟨t, rfl⟩ := rx; exact SeqAt.EqAt.int_str a t' b t
    | _ => exact absurd (show false = true from fx) Bool.false_ne_true
  | str a =>
    obtain ⟨t', rfl⟩ := ry
    cases x with
    | non => cases rx; exact SeqAt.EqAt.str_none a t'
    | bl b => cases rx; exact SeqAt.EqAt.str_bool a t' b
    | int b => obtain ⟨t, rfl⟩ := rx; exact SeqAt.EqAt.str_int a t' b t
    | str b => obtain ⟨t, rfl⟩ := rx; exact SeqAt.EqAt.str_str a t' b t
    | _ => exact absurd (show false = true from fx) Bool.false_ne_true
  | _ => exact absurd (show false = true from fy) Bool.false_ne_true
/-- the items' answers, read off the values (a value's own answer does not lean on its token) -/
def eqU (x : V) (u : Value) : Bool := match u with
  | .none => eqV .non x
  | .bool b => eqV (.bl b) x
  | .int i _ => eqV (.int i) x
  | .str z _ => eqV (.str z) x
  | _ => false
def inV (x : V) (xs : List V) : Bool := xs.any fun y => eqV y x
/-- x in a list or tuple of flat items -/
def rIn (K : PySem.W.Frag) (neg : Bool) : R2 := fun x y H Q => ∃ p xs, y = .ref p ∧ (SqL K H p xs ∨ SqT K H p xs) ∧ flatV x = true ∧ xs.all flatV = true ∧ Q (.bl (if neg then !inV x xs else inV x xs)) H
/-! ### len, list(x), tuple(x) of any list or tuple that is read -/
theorem call_len_seq : CallR X (.builtin "len") (fun xs H Q => ∃ p ys, xs = [.ref p] ∧ (SqL X.K H p ys ∨ SqT X.K H p ys) ∧ Q (.int ys.length) H) := by
  intro pins s σ H xs us Q I r h
  obtain ⟨p, ys, rfl, hq, q⟩ := h
  obtain ⟨u, rfl, rx⟩ := vals1 r
  cases rx
  have hn := line63
  rcases hq with hq | hq
  · obtain ⟨its, r', pl, hz⟩ := I.list hq
    have hlen := r'.length
    exact Calls.call_len_list pl.isList (by simp only [List.size_toArray] <;> omega) ⟨.int ys.length, H, I.tok _, ⟨s.toks + 1, by rw [List.size_toArray, hlen]⟩, q⟩
  · obtain ⟨its, r', pl, hz⟩ := I.tuple hq
    have hlen := r'.length
    exact len_tuple pl (by simp only [List.size_toArray] <;> omega) ⟨.int ys.length, H, I.tok _, ⟨s.toks + 1, by rw [List.size_toArray, hlen]⟩, q⟩
theorem call_len_str : CallR X (.builtin "len") (fun xs H Q => ∃ z, xs = [.str z] ∧ z.length ≤ sizeLine ∧ Q (.int z.length) H) := by
  intro pins s σ H xs us Q I r h
  obtain ⟨z, rfl, hz, q⟩ := h
  obtain ⟨u, rfl, t, rfl⟩ := vals1 r
  have hn := line63
  exact len_str (by omega) ⟨.int z.length, H, I.tok _, ⟨_, rfl⟩, q⟩
theorem CallR.or {f : Value} {r r' : List V → Hp → VK → Prop} (h : CallR X f r) (h' : CallR X f r') : CallR X f (fun xs H Q => r xs H Q ∨ r' xs H Q) := by
  intro pins s σ H xs us Q I rs q
  rcases q with q | q
  · exact h pins s σ H xs us Q I rs q
  · exact h' pins s σ H xs us Q I rs q
/-! ### the call of a builtin's method: o.m(..) -/
/-- the value is of that builtin type -/
def tyV (K : PySem.W.Frag) (T : String) (x : V) (H : Hp) : Prop := match x with
  | .str _ => T = "str"
  | .int _ => T = "int"
  | .ref p => (T = "list" ∧ ∃ xs, SqL K H p xs) ∨ (T = "tuple" ∧ ∃ o, K.lookup p = some o ∧ o.cls = .type "tuple" ∧ o.dict = none) ∨
      (T = "dict" ∧ ((∃ kvs, H p = some (.dK kvs)) ∨ ∃ kvs, H p = some (.dT kvs))) ∨ (T = "set" ∧ ∃ S n, H p = some (.set S n))
  | _ => False
theorem tyV_is {pins : List (Addr × Obj)} {σ : St} {H : Hp} {s : Shared} {T : String} {x : V} {v : Value} (I : Inv X pins σ H s) (r : RelV x v) (ty : tyV X.K T x H) :
    s.TypeIs v T ∧ ∀ a, v = .ref a → ∃ ob, s.heap.get? a = some ob ∧ ob.dict = none := by
  cases x with
  | str z =>
    obtain ⟨t, rfl⟩ := r
    cases (show T = "str" from ty)
    exact ⟨typeIs_str s z t, fun _ e => nomatch e⟩
  | int i =>
    obtain ⟨t, rfl⟩ := r
    cases (show T = "int" from ty)
    exact ⟨typeIs_int s i t, fun _ e => nomatch e⟩
  | ref p =>
    cases r
    rcases ty with ⟨rfl, xs, hq⟩ | ⟨rfl, o, hk, hc, hd⟩ | ⟨rfl, hk⟩ | ⟨rfl, S, n, hk⟩
    · obtain ⟨its, _, pl, _⟩ := I.list hq
      refine ⟨pl.isList.typeIs, fun a e => ?_⟩
      cases e
      obtain ⟨o, n, e, c, hd, _⟩ := pl
      exact ⟨o, e, hd⟩
    · refine ⟨⟨o, I.kIn p o hk, hc⟩, fun a e => ?_⟩
      cases e
      exact ⟨o, I.kIn _ o hk, hd⟩
    · have z : ∃ o, s.heap.get? p = some o ∧ o.ExactDict := by
        rcases hk with ⟨kvs, hk⟩ | ⟨kvs, hk⟩
        · obtain ⟨_, _, _, _, o, _, _, e, ex, _⟩ := I.hok p _ hk
          exact ⟨o, e, ex⟩
        · obtain ⟨_, _, _, _, o, _, _, e, ex, _⟩ := I.hok p _ hk
          exact ⟨o, e, ex⟩
      obtain ⟨o, e, ex⟩ := z
      refine ⟨⟨o, e, ex.1⟩, fun a e2 => ?_⟩
      cases e2
      exact ⟨o, e, ex.2.1⟩
    · obtain ⟨o, _, _, _, e, ex, _⟩ := I.hok p _ hk
      refine ⟨⟨o, e, ex.1⟩, fun a e2 => ?_⟩
      cases e2
      exact ⟨o, e, ex.2.1⟩
  | _ => exact False.elim ty
def tBM0 (K : PySem.W.Frag) (T : String) (r : V → List V → Hp → VK → Prop) (to : TE) : TE := fun σ H Q => to σ H fun x H1 => tyV K T x H1 ∧ r x [] H1 Q
def tBM (K : PySem.W.Frag) (T : String) (r : V → List V → Hp → VK → Prop) (to : TE) (t : TA) : TE := fun σ H Q => to σ H fun x H1 => tyV K T x H1 ∧ t σ H1 fun xs H2 => r x xs H2 Q
variable {o e : Expr} {es : List Expr} {to : TE} {t : TA} {name : Str} {apos cpos : Pos} {T id : String} {r : V → List V → Hp → VK → Prop}
theorem pe_bm (pa : PlainAttrs T) (slot : Slot T name id) (hty : typeOf (.builtin id) = pure (.type "method_descriptor")) (hm : MtR X id r) (ho : PE X o to) (ha : PA X (e :: es) t)
    (hbase : attributeBase o name X.env (eval o X.env) = eval o X.env := by rfl)
    (hfew : ((backTo cpos (starEach (e :: es) X.env)).all (fun x => !x.1) && (backToKw cpos (keywordEach [] X.env)).all (fun x => x.1.isSome)
      && decide ((e :: es).length + ([] : List Keyword).length + (if ([] : List Keyword).isEmpty then 0 else 1) < 30)) = true := by rfl)
    (hline : (apos.endLine == cpos.line) = true := by rfl) (hs : starEach (e :: es) X.env = (false, eval e X.env) :: starEach es X.env := by rfl) (hplain : (backTo cpos (starEach es X.env)).any (·.1) = false := by rfl) :
    PE X (.Call (.Attribute o name apos) (e :: es) [] cpos) (tBM X.K T r to t) := by
  intro pins s σ H Q I h
  refine wpAny_Call_method_late hbase hfew hline rfl (thn (ho pins s σ H _ I h) fun v s1 ⟨x, H1, I1, r1, ty, q1⟩ => ?_)
  obtain ⟨h1, h2⟩ := tyV_is I1 r1 ty
  refine ⟨T, id, pa, slot, hty, h1, h2, ?_⟩
  have hA := ha cpos pins s1 σ H1 _ I1 q1
  rw [hs] at hA ⊢
  refine Calls.callWith_builtin (by show (false || (backTo cpos (starEach es X.env)).any (·.1)) = false; rw [hplain] <;> rfl) (Calls.evalArgs_plain ?_)
  exact thn hA fun us s2 ⟨vs, H2, I2, r2, q2⟩ => hm pins s2 σ H2 x vs v us Q I2 r1 r2 q2
/- xs.append(e), list.index on a module's tuple .. are MtR facts of 06m -/
end
end L2

namespace L2
open PySem PySem.Spec PyProof.Rows

def MtM (X : Cx) (id : String) (r : V → List V → Hp → VK → Prop) : Prop :=
  ∀ (pins : List (Addr × Obj)) (s : Shared) (σ : St) (H : Hp) (x : V) (xs : List V) (v : Value) (us : List Value) (Q : VK), Inv X pins σ H s → RelV x v → Vals xs us → r x xs H Q →
    wpAny (model X.prog X.w) X.A (call (.builtin id) (v :: us)) (EP X pins σ Q) X.xe s

/-! ### lists of values -/
theorem Vals.one : ∀ {x : V} {us : List Value}, Vals [x] us → ∃ u, us = [u] ∧ RelV x u
  | _, _, .cons r .nil => ⟨_, rfl, r⟩
theorem Vals.two : ∀ {x y : V} {us : List Value}, Vals [x, y] us → ∃ u v, us = [u, v] ∧ RelV x u ∧ RelV y v
  | _, _, _, .cons r (.cons q .nil) => ⟨_, _, rfl, r, q⟩
theorem Vals.zero : ∀ {us : List Value}, Vals [] us → us = []
  | _, .nil => rfl
theorem Vals.dropLast {xs : List V} {us : List Value} (h : Vals xs us) : Vals xs.dropLast us.dropLast := by
  induction h with
  | nil => exact .nil
  | cons r t ih =>
    cases t with
    | nil => exact .nil
    | cons q t' => exact .cons r ih
theorem Vals.eraseIdx : ∀ {xs : List V} {us : List Value} (i : Nat), Vals xs us → Vals (xs.eraseIdx i) (us.eraseIdx i)
  | _, _, _, .nil => .nil
  | _, _, 0, .cons _ t => t
  | _, _, i + 1, .cons r t => .cons r (Vals.eraseIdx i t)
theorem Vals.reverse {xs : List V} {us : List Value} (h : Vals xs us) : Vals xs.reverse us.reverse := by
  induction h with
  | nil => exact .nil
  | cons r t ih => rw [List.reverse_cons, List.reverse_cons]; exact Vals.append ih (.cons r .nil)
theorem Vals.rep {xs : List V} {us : List Value} (h : Vals xs us) : ∀ k : Nat, Vals (List.replicate k xs).flatten (List.replicate k us).flatten
  | 0 => .nil
  | k + 1 => by
    rw [List.replicate_succ, List.replicate_succ, List.flatten_cons, List.flatten_cons]
    exact Vals.append h (Vals.rep h k)
section
variable {X : Cx} {pins : List (Addr × Obj)} {σ : St} {H : Hp} {s : Shared} {l b : Addr} {xs ys zs : List V}

/-! ### the two steps: a tracked list is rewritten, a new list is laid -/
theorem Inv.lset {its its' : List Value} {n : Nat} {f : Array Value → Array Value} {t' : Nat} (I : Inv X pins σ H s) (hH : H l = some (.lst xs))
    (e : s.heap.get? l = some { cls := .type "list", data := .seq its.toArray n }) (hf : f its.toArray = its'.toArray) (hv : Vals ys its') (hz : ys.length ≤ sizeLine) :
    Inv X pins σ (upd H l (.lst ys)) { s with heap := s.heap.update l (Obj.mapSeq f), toks := t' } := by
  have q := PySem.IsL.update e f
  rw [hf] at q
  refine I.write (x := l) (e := l) (by rw [hH]; exact trivial) (.inl rfl) (fun b' u hb hu => (Heap.get?_update_other s.heap (Obj.mapSeq f) (Ne.symm hb)).trans hu) ⟨_, q⟩ ?_
  exact ⟨hz, its', _, hv, q⟩
theorem Inv.lnew {its : List Value} {t' : Nat} (I : Inv X pins σ H s) (hv : Vals ys its) (hz : ys.length ≤ sizeLine) :
    Inv X pins σ (upd H s.heap.objs.size (.lst ys)) { s with heap := s.heap.push { cls := .type "list", data := .seq its.toArray }, toks := t' } :=
  I.laid (fun _ _ q => Heap.get?_push_of_some _ q) (Nat.le_refl _) ⟨hz, its, 0, hv, Heap.get?_push_size _ rfl⟩
theorem Inv.fresh (I : Inv X pins σ H s) : H s.heap.objs.size = none := I.hok.fresh (Nat.le_refl _)
theorem Inv.lstM (I : Inv X pins σ H s) (hH : H l = some (.lst xs)) : xs.length ≤ sizeLine ∧ ∃ (its : List Value) (n : Nat), Vals xs its ∧ xs.length = its.length ∧ s.heap.get? l = some { cls := .type "list", data := .seq its.toArray n } := by
  obtain ⟨z, its, n, r, e⟩ := I.hok l _ hH
  exact ⟨z, its, n, r, r.length, e⟩

end

section
variable {X : Cx}

/-! ### methods -/
def rAppend : V → List V → Hp → VK → Prop := fun x vs H Q => ∃ l xs y, x = .ref l ∧ vs = [y] ∧ H l = some (.lst xs) ∧ xs.length < sizeLine ∧ Q .non (upd H l (.lst (xs ++ [y])))
theorem mt_append : MtM X "list.append" rAppend := by
  intro pins s σ H x vs v us Q I rx rv h
  obtain ⟨l, xs, y, rfl, rfl, hH, hz, q⟩ := h
  cases rx
  obtain ⟨u, rfl, ru⟩ := rv.one
  obtain ⟨z, its, n, r, hl, e⟩ := I.lstM hH
  refine call_meets F.slot_list_append ⟨_, e, rfl⟩ F.entry_list_append (F.args_list_append_2 _ _) (PySem.list_append l its.toArray n u (by rw [List.size_toArray]; omega)) ⟨e, ?_⟩
  refine ⟨.non, _, I.lset (its' := its ++ [u]) hH e (by simp) (r.append (.cons ru .nil)) ?_, rfl, q⟩
  rw [List.length_append, List.length_singleton]
  omega

def rExtend : V → List V → Hp → VK → Prop := fun x vs H Q => ∃ l b xs zs, x = .ref l ∧ vs = [.ref b] ∧ H l = some (.lst xs) ∧ H b = some (.lst zs) ∧ xs.length + zs.length ≤ sizeLine ∧ Q .non (upd H l (.lst (xs ++ zs)))
def rPop : V → List V → Hp → VK → Prop := fun x vs H Q => ∃ l xs y, x = .ref l ∧ vs = [] ∧ H l = some (.lst xs) ∧ xs[xs.length - 1]? = some y ∧ Q y (upd H l (.lst xs.dropLast))
def rPopAt : V → List V → Hp → VK → Prop := fun x vs H Q => ∃ l xs i k y, x = .ref l ∧ vs = [.int i] ∧ H l = some (.lst xs) ∧ -(2 ^ 63) ≤ i ∧ i < 2 ^ 63 ∧ seqIndex? i xs.length = some k ∧ xs[k]? = some y ∧ Q y (upd H l (.lst (xs.eraseIdx k)))
def rReverse : V → List V → Hp → VK → Prop := fun x vs H Q => ∃ l xs, x = .ref l ∧ vs = [] ∧ H l = some (.lst xs) ∧ Q .non (upd H l (.lst xs.reverse))
def rClear : V → List V → Hp → VK → Prop := fun x vs H Q => ∃ l xs, x = .ref l ∧ vs = [] ∧ H l = some (.lst xs) ∧ Q .non (upd H l (.lst []))
/-! ### list + list, list += list, list * int -/
def rCat : R2 := fun x y H Q => ∃ l b xs zs, x = .ref l ∧ y = .ref b ∧ H l = some (.lst xs) ∧ H b = some (.lst zs) ∧ xs.length + zs.length ≤ sizeLine ∧ ∀ p, H p = none → Q (.ref p) (upd H p (.lst (xs ++ zs)))
/-- a list times an int (a negative one is nothing) -/
def rRep : R2 := fun x y H Q => ∃ l k xs, x = .ref l ∧ y = .int k ∧ H l = some (.lst xs) ∧ -(2 ^ 63) ≤ k ∧ k < 2 ^ 63 ∧ xs.length * k.toNat ≤ sizeLine ∧
  ∀ p, H p = none → Q (.ref p) (upd H p (.lst (List.replicate k.toNat xs).flatten))
/-! ### del xs[i] -/
end

/-! ### xs[a:b] = ys -/
section
variable {prog : Program} {w : World} {A : Around} {E : Value → Shared → Prop} {s : Shared}
end

section
variable {X : Cx}
end
end L2

namespace Att
open PySem PySem.W PySem.Calls PyProof.Rows

/-! ### the script -/
theorem ints_of_wellAll {P : Params} {h : Heap} : ∀ (ns : List Int) (vs : List Value), WellAll P h vs (ns.map WData.int) → IntsAre vs ns := by
  intro ns
  induction ns with
  | nil =>
    intro vs w
    rw [List.map_nil] at w
    cases w
    exact .nil
  | cons n ns ih =>
    intro vs w
    rw [List.map_cons] at w
    cases w with
    | cons a b =>
      cases a
      exact .cons _ _ (ih _ b)

theorem script_of {l : OpenLaw} {n : Nat} (hn : l.most = some n) {P : Params} {h : Heap} {args : List WData} {vals : List Value}
    (hpre : l.row.toRowW.claim.pre args = true) (hwl : WellAll P h vals args) :
    ∃ a vs ns, vals = [Value.ref a] ∧ args = [WData.list (ns.map WData.int)] ∧ h.get? a = some { cls := .type "list", data := .seq vs.toArray } ∧ IntsAre vs ns ∧ ns.length ≤ n := by
  have hsh : WShape.hasAll [] args [.list .int] = true := (pre_splitW hpre).1
  have hc : l.pre.holds [] { args := args } = true := (pre_splitW hpre).2
  obtain ⟨d, r, rfl, h1, h2⟩ := hasAllW_cons hsh
  obtain rfl := hasAllW_nil h2
  obtain ⟨xs, rfl, h3⟩ := hasW_list h1
  obtain ⟨ns, rfl⟩ := items_int h3
  have hlen : ns.length ≤ n := by
    unfold OpenLaw.pre at hc
    have h4 : (WTm.not (.lt (.lit (.int (n : Int))) (.len (.arg 0)))).holds [] { args := [.list (ns.map .int)] } = true := by
      have h4 := (holds_andW hc).1
      rw [hn] at h4
      exact h4
    have h5 := condW_of h4 (w_not (w_lt w_lit (w_len_list (w_arg rfl))))
    rw [List.length_map] at h5
    refine Nat.le_of_not_lt fun q => ?_
    have q' : (n : Int) < ((ns.length : Nat) : Int) := by omega
    first
      | (rw [decide_eq_true q'] at h5; exact absurd h5 (by decide))
      | (simp at h5; omega)
  cases hwl with
  | cons w1 w2 =>
    cases w2
    cases w1 with
    | list ho hall => exact ⟨_, _, ns, rfl, rfl, ho, ints_of_wellAll ns _ hall, hlen⟩

theorem post_true (l : OpenLaw) (args : List WData) : l.row.toRowW.claim.post args (.bool true) args = true :=
  postW_of (r := l.row.toRowW) (X := (true == true))
    (show WShape.has [] (.bool true) .bool = true by first | rfl | decide | simp [WShape.has, WShape.arms, WShape.armsAll])
    (show (WTm.eq .res (.lit (.bool true))).value [] { args := args, res := some (.bool true), after := args } = some (.bool (true == true)) from w_eq_bool (w_res rfl) w_lit) rfl

/-! ### the attachment: holds_open's last premise (the goal 'hc' behind k_head) from a wpAny of the law's body -/
/-- the same from a codeAny of the CALL (for a layer whose function contracts speak of calls) -/
theorem attach_call {l : OpenLaw} {n : Nat} {q : Program} {loose : List Str} {XP : (Str → Option Value) → Heap → Prop} {YP : World → Heap → Prop} {d : DefRec}
    (hn : l.most = some n) (hdf : d.params.defaults = [])
    (call : ∀ (w : World) (s₀ s₁ : Shared) (mg mb : Str → Option Value) (fa : Addr) (o : Obj) (pm cd doc : Value) (a : Addr) (vs : List Value) (ns : List Int),
      Ground q loose [] XP w s₀ mg mb s₁.heap → YP w s₁.heap →
      s₁.heap.get? fa = some o → o.data = .func (docDef d.name d.params d.body d.scope pm cd doc) → s₁.heap.CodeRec cd d.name → mg d.name = some (.ref fa) →
      s₁.heap.get? a = some { cls := .type "list", data := .seq vs.toArray } → IntsAre vs ns → ns.length ≤ n → s₁.gens = #[] →
      codeAny (model l.prog w) callerA (.call (.ref fa) ⟨[.ref a], []⟩) (fun r s' => r = .ok (.ret (.bool true)) ∧ OldK s₁.heap s'.heap ∧ s'.os = s₁.os ∧ AllBare s'.gens) s₁) :
    WalkO q loose XP YP l.row.toRowW d [] (fun f vs => PySem.call f vs) := by
  intro w s₀ s₁ mg mb G Y fa o pm cd doc dV kV ho hd hcd hD hmg hg args vals as hpre hlay hrd hwl hlo
  obtain rfl : dV = .none := Dflts.none hD hdf
  obtain rfl : kV = .none := Dflts.noKw hD
  obtain ⟨a, vs, ns, rfl, rfl, hobj, hints, hlen⟩ := script_of hn hpre hwl
  refine enter_call (codeAny_mono (call w s₀ s₁ mg mb fa o pm cd doc a vs ns G Y ho (fd_plain hd) hcd hmg hobj hints hlen hg) fun r s' hq => ?_)
  obtain ⟨rfl, h2, h3, h4⟩ := hq
  exact ⟨.inl ⟨.bool true, .bool true, [], rfl, fun _ => rfl, .bool true, post_true l _, fun _ => ⟨List.Pairwise.nil, fun _ hm => (nomatch hm)⟩⟩, h2, h3, h4⟩

/-! ### rules over ANY heap (no ledger) from facts about the written part K: the library's own take a ledger (News) for what they write -/
section
variable {prog : Program} {w : World} {A : Around} {E : Value → Shared → Prop} {s : Shared} {K : Frag}

/-! the whole heap as the ledger: makes every rule that writes through a ledger a rule over any heap -/
def noObjs (h : Heap) : Heap := { h with objs := #[] }
def ledger (h : Heap) (L d : Addr) : List (Addr × Obj) := (List.range h.objs.size).filterMap fun a => if a = L ∨ a = d then none else (h.get? a).map fun o => (a, o)
end
end Att

namespace L2
open PySem PySem.Spec PyProof.Rows

theorem vals_ints : ∀ {vs : List Value} {ns : List Int}, IntsAre vs ns → Vals (ns.map V.int) vs
  | _, _, .nil => .nil
  | _, _, .cons n t h => .cons ⟨t, rfl⟩ (vals_ints h)

/-- nothing is tracked but the script, known to the object (or it is an object of the module) -/
def Only (H : Hp) : Prop := ∀ b, H b = none ∨ ∃ o xs, H b = some (.frz o (.lst xs))

/-- THE HEAD: the law's promise, at the heap behind the top. F, the promise of the law's def, may use that base is part of the heap (so K.In base, base.Ns mainGlobals mg stand in Mod) -/
theorem law_call {P : Program} {w : World} {K : PySem.W.Frag} {mg mb : Str → Option Value} {CX : CXT} {k : Nat} {fa a : Addr} {fd : FuncData} {x : Str} {sp : Sp} {s₁ : Shared} {vs : List Value} {ns : List Int}
    (KX : K.In s₁.heap) (hns : s₁.heap.Ns mainGlobals mg) (hb : s₁.heap.Ns builtinsNs mb) (hbb : ∀ x : Str, x ≠ "__name__" → mb x = bootBuiltins x) (hlim : s₁.heap.NoLimit) (hg : s₁.gens = #[])
    (ha : s₁.heap.get? a = some { cls := .type "list", data := .seq vs.toArray }) (hi : IntsAre vs ns) (hl : ns.length ≤ sizeLine) (hr : Room k callerA)
    (F : ∀ base : Heap, K.In base → base.Ns mainGlobals mg → FnOk P w K mg base CX k fa fd [x] sp) (hbind : ∀ (s : Shared) (u : Value), BindsTo s fd ⟨[u], []⟩ [(x, u)])
    (hsp : ∀ H : Hp, Only H → SqL K H a (ns.map V.int) → sp [.ref a] H (fun v _ => v = .bl true) fun _ _ _ => False)
    (hCX : ∀ H e s', CX [] H s₁ (fun _ _ _ => False) e s' → False) :
    codeAny (model P w) callerA (.call (.ref fa) ⟨[.ref a], []⟩) (fun r s' => r = .ok (.ret (.bool true)) ∧ OldK s₁.heap s'.heap ∧ s'.os = s₁.os ∧ AllBare s'.gens) s₁ := by
  have rv := vals_ints hi
  have lenV := hi.length
  -- from an abstract heap in which nothing but the script may be tracked
  have core : ∀ H : Hp, Only H → SqL K H a (ns.map V.int) → HOk P w H s₁.heap → (∀ b, H b ≠ none → b = a) → (H a ≠ none → K.lookup a = none) →
      codeAny (model P w) callerA (.call (.ref fa) ⟨[.ref a], []⟩) (fun r s' => r = .ok (.ret (.bool true)) ∧ OldK s₁.heap s'.heap ∧ s'.os = s₁.os ∧ AllBare s'.gens) s₁ := by
    intro H hO hS hok hA hK
    have base_of : ∀ {b : Addr} {o : Obj}, s₁.heap.get? b = some o → H b = none → (hidT s₁.heap H).get? b = some o := fun e n => hidT_get e n
    have noA : ∀ {b : Addr} {o : Obj} {es : Array DictEntry} {ep : Nat}, s₁.heap.get? b = some o → o.data = .dict es ep → H b = none := fun {b o es ep} e d => by
      cases q : H b with
      | none => rfl
      | some u =>
        have e' : b = a := hA b (by rw [q]; simp)
        subst e'
        rw [ha] at e; cases e
        have d' : Data.seq vs.toArray _ = Data.dict es ep := d
        cases d'
    have nsK : ∀ {b : Addr} {m : Str → Option Value}, s₁.heap.Ns b m → (hidT s₁.heap H).Ns b m := fun {b m} ⟨o, es, ep, e, d, r⟩ => ⟨o, es, ep, base_of e (noA e d), d, r⟩
    have hKb : K.In (hidT s₁.heap H) := fun b o e => base_of (KX b o e) (by
      cases q : H b with
      | none => rfl
      | some u =>
        have e' : b = a := hA b (by rw [q]; simp)
        subst e'
        rw [hK (by rw [q]; simp)] at e; cases e)
    have hM : Mod K mg (hidT s₁.heap H) := ⟨hKb, nsK hns, ⟨mb, nsK hb, hbb⟩, let ⟨mc, h1, h2⟩ := hlim; ⟨mc, nsK h1, h2⟩⟩
    have e0 : Env0 P w K mg (hidT s₁.heap H) callerA [] s₁ H := ⟨rfl, hM, fun b o e => of_hidT e, Nat.le_of_eq (hidT_size _ _), trivial, fun b hb => absurd (show b ∈ ([] : List Addr) from hb) (by simp), hok, .of_eq hg⟩
    refine codeAny_mono ((F _ hKb (nsK hns)).run callerA [] s₁ H ⟨[.ref a], []⟩ [.ref a] [.ref a] _ _ hr e0 (hbind s₁ (.ref a)) (.cons rfl .nil) (hsp H hO hS)) fun r s' h => ?_
    cases r with
    | error e => exact (hCX H e s' h).elim
    | ok fl =>
      cases fl with
      | next => exact False.elim h
      | brk => exact False.elim h
      | cont => exact False.elim h
      | ret u =>
        obtain ⟨v, H', os, bare, un, hok', r', q⟩ := h
        have q' : v = .bl true := q
        subst q'
        obtain rfl : u = Value.bool true := r'
        refine ⟨rfl, OldK.of_keep fun b o e => ?_, os, bare⟩
        cases q : H b with
        | none => exact un.keep b o e q (by intro z; exact absurd (show b ∈ ([] : List Addr) from z) (by simp)) (by simp)
        | some u =>
          rcases hO b with z | ⟨ob, xs, z⟩
          · rw [q] at z; cases z
          · have z2 := un.frzs b ob _ z
            obtain ⟨e1, _⟩ := hok b _ z
            obtain ⟨e2, _⟩ := hok' b _ z2
            rw [e] at e1; cases e1
            exact e2
  cases hk : K.lookup a with
  | some o =>
    -- the script is one of the module's own objects
    have e := KX a o hk
    rw [ha] at e
    cases e
    refine core (fun _ => none) (fun _ => .inl rfl) (.inr ⟨_, vs.toArray, _, hk, rfl, rfl, rfl, by rw [List.size_toArray, lenV]; exact hl, by simpa using rv⟩) (fun b u z => by have z' : (none : Option HO) = some u := z; cases z') (fun b z => absurd rfl z) fun z => absurd rfl z
  | none =>
    refine core (fun b => if b = a then some (.frz { cls := .type "list", data := .seq vs.toArray } (.lst (ns.map V.int))) else none) (fun b => ?_) (.inl (.inr ⟨{ cls := .type "list", data := .seq vs.toArray }, if_pos rfl⟩)) (fun b u z => ?_) (fun b z => ?_) fun _ => hk
    · by_cases hb : b = a
      · exact .inr ⟨_, _, if_pos hb⟩
      · exact .inl (if_neg hb)
    · by_cases hb : b = a
      · have z' := (if_pos hb).symm.trans z
        cases z'
        subst hb
        exact ⟨ha, by rw [List.length_map]; exact hl, vs, _, rv, ha⟩
      · have z' := (if_neg hb).symm.trans z
        cases z'
    · by_cases hb : b = a
      · exact hb
      · exact absurd (if_neg hb) z
end L2

namespace L2
open PySem PySem.Spec PyProof.Rows

abbrev KOf {K : PySem.W.Frag} {h : Heap} (_ : K.In h) : PySem.W.Frag := K

/-- the goal that k_head leaves (case hc), from the law's promise. F gives the function object fd (K's own) once, then the promise over every base -/
theorem walk_of {l : PySem.W.OpenLaw} {n k : Nat} {q : Program} {loose : List Str} {XP : (Str → Option Value) → Heap → Prop} {YP : World → Heap → Prop} {d : DefRec} {K : Params → PySem.W.Frag} {CX : World → CXT} {sp : World → Sp} {x : Str}
    (hn : l.most = some n) (hn2 : n ≤ sizeLine) (hdf : d.params.defaults = []) (hr : Room k callerA)
    (hY : ∀ (w : World) (h : Heap), YP w h → (K w.params).In h)
    (F : ∀ (w : World) (mg : Str → Option Value) (fa : Addr) (h : Heap), (K w.params).In h → h.Ns mainGlobals mg → mg d.name = some (.ref fa) →
      ∃ fd : FuncData, (∀ (s : Shared) (u : Value), BindsTo s fd ⟨[u], []⟩ [(x, u)]) ∧
        ∀ base : Heap, (K w.params).In base → base.Ns mainGlobals mg → FnOk l.prog w (K w.params) mg base (CX w) k fa fd [x] (sp w))
    (hsp : ∀ (w : World) (H : Hp) (a : Addr) (ns : List Int), ns.length ≤ n → Only H → SqL (K w.params) H a (ns.map V.int) → sp w [.ref a] H (fun v _ => v = .bl true) fun _ _ _ => False)
    (hCX : ∀ (w : World) (H : Hp) (s : Shared) (e : Value) (s' : Shared), CX w [] H s (fun _ _ _ => False) e s' → False) :
    PySem.W.WalkO q loose XP YP l.row.toRowW d [] (fun f vs => PySem.call f vs) := by
  refine Att.attach_call hn hdf fun w s₀ s₁ mg mb fa o pm cd doc a vs ns G Y ho hd hcd hmg hobj hints hlen hg => ?_
  have KX := hY w _ Y
  obtain ⟨fd, hb, hF⟩ := F w mg fa _ KX G.T.g hmg
  exact law_call KX G.T.g G.T.b G.T.builtins G.T.nolimit hg hobj hints (Nat.le_trans hlen hn2) hr hF hb (fun H hO hS => hsp w H a ns hlen hO hS) fun H e s' => hCX w H s₁ e s'
end L2

/- THE LAST THEOREM (shape; LID, My.* are yours):
   My.Adr: a structure of the addresses that your layer names (classes, functions); My.Txt K t: a structure (Prop) of the equations over K;
   My.txt_mk : {K} {implicit addresses ..} (e1 : nsIn K mainGlobals "law" = some (some (.ref f))) (e2 : K.lookup f = some ⟨oc, od, .func (fnOf "law" "law" params body scope dV kV doc pm an cdv ct), sl⟩) (e3 : codeIn K cdv "law" = true) .. : ∃ t, My.Txt K t

set_option maxRecDepth 100000 in
set_option maxHeartbeats 0 in
theorem PySem.Challenge.cw_LID_holds : PySem.Challenge.rw_LID.Holds := by
  w_on; o_law; k_head; (case hw => w_witness2)
  k_fill
  refine L2.walk_of (l := PySem.Challenge.rw_LID) (n := 63) (k := 40) (x := "script") (CX := fun w => ..) (sp := fun _ => My.sp_law) rfl (by decide) rfl ⟨rfl, by decide, by decide⟩ (fun w h Y => PySem.W.kIn_of Y) ?F ?S ?C
  case F =>
    intro w mg fa h KX G hmg
    have T : ∃ t, My.Txt (L2.KOf KX) t := by
      dsimp only [L2.KOf]                          -- K must stand as «<heap const> w.params» for k_is
      refine' My.txt_mk ?e1 ?e2 ?e3 ..
      (case e1 => PySem.W.k_is)                    -- in the order: a name -> its address -> its object -> its parts
      (case e2 => PySem.W.k_is)
      ..
    obtain ⟨t, T⟩ := T
    have e0 := hmg.symm.trans (PySem.W.mg_of KX G T.law)
    cases e0                                       -- fa is the law's own address
    exact ⟨_, fun s u => .of_eq rfl, fun base kb nb => My.law_fn T kb nb⟩     -- if «.of_eq rfl» comes too early: refine' ⟨_, ?b, fun base kb nb => My.law_fn T kb nb⟩; exact fun s u => .of_eq rfl
  case S => exact fun w H a ns hl hO hS => ..
  case C => exact ..
(the tactic k_is has no namespace: write k_is) -/

/-! SHORT WORDS over the layer: a def of the text, its body, what a loop and a test want. -/
namespace L2
open PySem PySem.Spec PyProof.Rows

/-! ### the text by places -/
/-- the j-th statement of a class's body -/
def inClass (s : Stmt) (j : Nat) : Stmt := match s with
  | .ClassDef _ _ _ body _ _ _ _ _ _ _ => body.getD j (.Pass ⟨0, 0, 0, 0⟩)
  | _ => .Pass ⟨0, 0, 0, 0⟩
def defArgs (s : Stmt) : Arguments := match s with
  | .FunctionDef _ a _ _ _ _ _ _ _ _ => a
  | _ => { posonlyargs := [], args := [], vararg := none, kwonlyargs := [], kw_defaults := [], kwarg := none, defaults := [] }
def defBody (s : Stmt) : List Stmt := match s with
  | .FunctionDef _ _ b _ _ _ _ _ _ _ => b
  | _ => []
def defScope (s : Stmt) : Scope := match s with
  | .FunctionDef _ _ _ _ _ _ sc _ _ _ => sc
  | _ => { kind := .function, names := [], isGenerator := false, isCoroutine := false }

/-! ### no exception leaves a def -/
abbrev CX0 : CXT := fun _ _ _ _ _ _ => False
abbrev E0 : XK := fun _ _ _ => False
theorem pass0 {X : Cx} : Passes CX0 X E0 := fun _ _ _ _ _ _ _ h => h.elim

/-! ### a def (or method) of the text as it stands behind the top -/
structure Fun (K : PySem.W.Frag) (x qual : Str) (st : Stmt) (f : Addr) (fd : FuncData) : Prop where
  ex : ∃ (oc : Value) (od : Option Addr) (kV doc pm : Value) (an : Option Addr) (cdv ct : Value) (osl : Array (Option Value)),
    fd = PySem.W.fnOf x qual (defArgs st) (defBody st) (defScope st) .none kV doc pm an cdv ct ∧ K.lookup f = some ⟨oc, od, .func fd, osl⟩ ∧ PySem.W.codeIn K cdv qual = true
  kp : PySem.W.keepIn K (.ref f) = true
section
variable {P : Program} {w : World} {K : PySem.W.Frag} {mg : Str → Option Value} {base : Heap}
/-- THE RULE for a def: its body as a term of rules, and the reading of that term -/
theorem Fun.ok {x qual : Str} {st : Stmt} {f : Addr} {fd : FuncData} {N ps : List Str} {k : Nat} {sp : Sp} (F : Fun K x qual st f fd) (S : FnScope N ps (defScope st)) (len : ∀ vs H Q E, sp vs H Q E → vs.length = ps.length)
    (hbody : ∀ (cdv : Value) (A : Around) (outer : List Env) (s : Shared) (H : Hp) (vs : List V) (Q : VK) (E : XK), Room k (A.deeper (envOfC qual (defScope st) s.heap.objs.size f cdv)) → sp vs H Q E →
      ∃ t, PSs (cxOf CX0 P w K mg base N qual (defScope st) f cdv A outer s H E).nox (defBody st) t ∧ t { nx := fun _ H' => Q .non H', rt := Q } (start N vs) H) : FnOk P w K mg base CX0 (k + 1) f fd ps sp := by
  obtain ⟨oc, od, kV, doc, pm, an, cdv, ct, osl, rfl, lk, hcd⟩ := F.ex
  refine fn_of lk hcd S len fun A outer s H vs Q E hr hsp => ?_
  obtain ⟨t, h, q⟩ := hbody cdv A outer s H vs Q E hr hsp
  exact ⟨t, h.nox, q⟩
/-- how its arguments bind (no defaults): h is «fun _ _ _ _ _ _ us hl => match us, hl with | [_, _], _ => rfl», one _ a parameter -/
theorem Fun.binds {x qual : Str} {st : Stmt} {f : Addr} {fd : FuncData} {ps : List Str} (F : Fun K x qual st f fd)
    (h : ∀ (kV doc pm : Value) (an : Option Addr) (cdv ct : Value) (us : List Value), us.length = ps.length → bindArgs (PySem.W.fnOf x qual (defArgs st) (defBody st) (defScope st) .none kV doc pm an cdv ct) ⟨us, []⟩ = pure (ps.zip us)) : Binds K fd ps [] := by
  obtain ⟨oc, od, kV, doc, pm, an, cdv, ct, osl, rfl, lk, hcd⟩ := F.ex
  exact .all (h kV doc pm an cdv ct)
theorem fun_mk {x qual : Str} {st : Stmt} {f : Addr} {oc : Value} {od an : Option Addr} {osl : Array (Option Value)} {kV doc pm cdv ct : Value} (l : K.lookup f = some ⟨oc, od, .func (PySem.W.fnOf x qual (defArgs st) (defBody st) (defScope st) .none kV doc pm an cdv ct), osl⟩)
    (c : PySem.W.codeIn K cdv qual = true) (k : PySem.W.keepIn K (.ref f) = true) : Fun K x qual st f (PySem.W.fnOf x qual (defArgs st) (defBody st) (defScope st) .none kV doc pm an cdv ct) := ⟨⟨oc, od, kV, doc, pm, an, cdv, ct, osl, rfl, l, c⟩, k⟩
end
theorem small1000 {n : Nat} (h : n ≤ 1000) : n < sizeLine := Nat.lt_of_le_of_lt h (by decide)

/-! ### expressions in short: the name that stands in the i-th slot -/
section
variable {X : Cx}
theorem pv (i : Nat) {x : Str} {pos : Pos} (hN : X.N[i]? = some x := by rfl) (hv : Vis X.env.scope x := by first | exact Or.inl rfl | exact Or.inr (Or.inl rfl) | exact Or.inr (Or.inr rfl)) (hd : (x == ("__debug__" : Str)) = false := by decide)
    (hcd : (x == ("__classdict__" : Str)) = false := by decide) : PE X (.Name x pos) (tVar i) := pe_var hN hv hd hcd
end

/-! ### tests -/
/-! ### heaps -/
/-- all that was tracked is as it was -/
def Same (H H' : Hp) : Prop := ∀ b o, H b = some o → H' b = some o
theorem Same.refl (H : Hp) : Same H H := fun _ _ h => h
theorem Same.trans {H H1 H2 : Hp} (a : Same H H1) (b : Same H1 H2) : Same H H2 := fun c o h => b c o (a c o h)
theorem Same.free {H H' : Hp} (e : Same H H') {l : Addr} (h : H' l = Option.none) : H l = Option.none := by
  cases q : H l with
  | none => rfl
  | some o =>
    rw [e l o q] at h
    cases h
theorem Same.seq {K : PySem.W.Frag} {H H' : Hp} {a : Addr} {xs : List V} (e : Same H H') (h : SqL K H a xs) : SqL K H' a xs := by
  rcases h with (h | ⟨o, h⟩) | h
  · exact .inl (.inl (e _ _ h))
  · exact .inl (.inr ⟨o, e _ _ h⟩)
  · exact .inr h

end L2

namespace L2
open PySem PySem.Spec PyProof.Rows
/-! ### lists of pairs as tables -/
section
variable {κ : Type} [DecidableEq κ]
def valV (kvs : List (κ × V)) (k : κ) : Option V := (kvs.find? fun kv => decide (kv.1 = k)).map (·.2)
/-- in its place, or at the end -/
def putK (kvs : List (κ × V)) (k : κ) (v : V) : List (κ × V) :=
  if (kvs.any fun kv => decide (kv.1 = k)) = true then kvs.map (fun kv => if kv.1 = k then (kv.1, v) else kv) else kvs ++ [(k, v)]
def dropK (kvs : List (κ × V)) (k : κ) : List (κ × V) := kvs.filter fun kv => decide (kv.1 ≠ k)

theorem valV_pos {p : κ × V} {r : List (κ × V)} {k : κ} (e : p.1 = k) : valV (p :: r) k = some p.2 := by simp [valV, List.find?_cons, e]
theorem valV_neg {p : κ × V} {r : List (κ × V)} {k : κ} (e : ¬ p.1 = k) : valV (p :: r) k = valV r k := by simp [valV, List.find?_cons, e]
theorem valV_any (k : κ) : ∀ kvs : List (κ × V), (kvs.any fun kv => decide (kv.1 = k)) = (valV kvs k).isSome
  | [] => rfl
  | p :: r => by
    rw [List.any_cons]
    by_cases e : p.1 = k
    · simp only [valV_pos e, decide_eq_true e, Bool.true_or, Option.isSome_some]
    · rw [valV_neg e, decide_eq_false e, Bool.false_or]; exact valV_any k r
theorem RelO.isSome_eq {o : Option V} {u : Option Value} (r : RelO o u) : o.isSome = u.isSome := by
  cases o with
  | none => cases u with
    | none => rfl
    | some _ => exact (show False from r).elim
  | some _ => cases u with
    | none => exact (show False from r).elim
    | some _ => rfl
theorem RelO.getD {o : Option V} {u : Option Value} {d : V} {d' : Value} (r : RelO o u) (rd : RelV d d') : RelV (o.getD d) (u.getD d') := by
  cases o with
  | none => cases u with
    | none => exact rd
    | some _ => exact (show False from r).elim
  | some _ => cases u with
    | none => exact (show False from r).elim
    | some _ => exact r

/-- raw tables of the same keys -/
theorem KV.val {kvs : List (κ × V)} {vs : List (κ × Value)} (r : KV kvs vs) (k : κ) : RelO (valV kvs k) (valueAt vs k) := by
  unfold KV at r
  induction r with
  | nil => exact True.intro
  | @cons p q ps qs h t ih =>
    obtain ⟨h1, h2⟩ := h
    by_cases e : p.1 = k
    · have e' : q.1 = k := h1.symm.trans e
      have b : valueAt (q :: qs) k = some q.2 := by simp [valueAt, List.find?_cons, e']
      rw [valV_pos e, b]; exact h2
    · have e' : ¬ q.1 = k := fun z => e (h1.trans z)
      have b : valueAt (q :: qs) k = valueAt qs k := by simp [valueAt, List.find?_cons, e']
      rw [valV_neg e, b]; exact ih
theorem KV.any {kvs : List (κ × V)} {vs : List (κ × Value)} (r : KV kvs vs) (k : κ) : (kvs.any fun kv => decide (kv.1 = k)) = vs.any fun kv => decide (kv.1 = k) := by
  unfold KV at r
  induction r with
  | nil => rfl
  | cons h t ih => rw [List.any_cons, List.any_cons, ih, h.1]
theorem KV.repl {kvs : List (κ × V)} {vs : List (κ × Value)} (r : KV kvs vs) (k : κ) {y : V} {u : Value} (ry : RelV y u) :
    KV (kvs.map fun kv => if kv.1 = k then (kv.1, y) else kv) (vs.map fun kv => if kv.1 = k then (kv.1, u) else kv) := by
  unfold KV at r ⊢
  induction r with
  | nil => exact .nil
  | @cons p q ps qs h t ih =>
    rw [List.map_cons, List.map_cons]
    refine .cons ?_ ih
    obtain ⟨h1, h2⟩ := h
    by_cases e : p.1 = k
    · rw [if_pos e, if_pos (h1.symm.trans e)]; exact ⟨h1, ry⟩
    · rw [if_neg e, if_neg (fun z => e (h1.trans z))]; exact ⟨h1, h2⟩
theorem KV.put {kvs : List (κ × V)} {vs : List (κ × Value)} (r : KV kvs vs) (k : κ) {y : V} {u : Value} (ry : RelV y u) : KV (putK kvs k y) (stored vs k u) := by
  unfold putK stored
  rw [r.any k]
  by_cases e : (vs.any fun kv => decide (kv.1 = k)) = true
  · rw [if_pos e, if_pos e]; exact r.repl k ry
  · rw [if_neg e, if_neg e]; exact Paired.snoc r ⟨rfl, ry⟩
theorem KV.drop {kvs : List (κ × V)} {vs : List (κ × Value)} (r : KV kvs vs) (k : κ) : KV (dropK kvs k) (without vs k) := by
  unfold KV at r ⊢
  unfold dropK without
  induction r with
  | nil => exact .nil
  | @cons p q ps qs h t ih =>
    obtain ⟨h1, h2⟩ := h
    rw [List.filter_cons, List.filter_cons]
    by_cases e : p.1 = k
    · have a : ¬ decide (p.1 ≠ k) = true := by simp [e]
      have b : ¬ decide (q.1 ≠ k) = true := by simp [h1.symm.trans e]
      rw [if_neg a, if_neg b]; exact ih
    · have e' : ¬ q.1 = k := fun z => e (h1.trans z)
      have a : decide (p.1 ≠ k) = true := by simp [e]
      have b : decide (q.1 ≠ k) = true := by simp [e']
      rw [if_pos a, if_pos b]; exact .cons ⟨h1, h2⟩ ih
theorem KV.keys {kvs : List (κ × V)} {vs : List (κ × Value)} (r : KV kvs vs) : kvs.map (·.1) = vs.map (·.1) := by
  unfold KV at r
  induction r with
  | nil => rfl
  | cons h t ih => rw [List.map_cons, List.map_cons, ih, h.1]
theorem KV.length {kvs : List (κ × V)} {vs : List (κ × Value)} (r : KV kvs vs) : kvs.length = vs.length := Paired.length r
end


/-! ### a tracked dict, its keys ints and texts or tuples of these -/
/-- raw entries of a dict with tuple keys -/
abbrev KT (H : Hp) : List (List Key × V) → List (List Key × Addr × Value) → Prop := Paired fun p q => p.1 = q.1 ∧ H q.2.1 = some (.tup (p.1.map kV)) ∧ RelV p.2 q.2.2
theorem KT.val {H : Hp} {kvs : List (List Key × V)} {xs : List (List Key × Addr × Value)} (r : KT H kvs xs) (k : List Key) : RelO (valV kvs k) ((atKey xs k).map (·.2)) := by
  induction r with
  | nil => exact True.intro
  | @cons p q ps qs h t ih =>
    obtain ⟨h1, _, h2⟩ := h
    by_cases e : p.1 = k
    · have e' : q.1 = k := h1.symm.trans e
      have b : atKey (q :: qs) k = some q.2 := by simp [atKey, List.find?_cons, e']
      rw [valV_pos e, b]; exact h2
    · have e' : ¬ q.1 = k := fun z => e (h1.trans z)
      have b : atKey (q :: qs) k = atKey qs k := by simp [atKey, List.find?_cons, e']
      rw [valV_neg e, b]; exact ih
theorem KT.repl {H : Hp} {kvs : List (List Key × V)} {xs : List (List Key × Addr × Value)} (r : KT H kvs xs) (k : List Key) {y : V} {u : Value} (ry : RelV y u) :
    KT H (kvs.map fun kv => if kv.1 = k then (kv.1, y) else kv) (xs.map (putAt k u)) := by
  induction r with
  | nil => exact .nil
  | @cons p q ps qs h t ih =>
    rw [List.map_cons, List.map_cons]
    refine .cons ?_ ih
    obtain ⟨h1, h2, h3⟩ := h
    unfold putAt
    by_cases e : p.1 = k
    · rw [if_pos e, if_pos (h1.symm.trans e)]; exact ⟨h1, h2, ry⟩
    · rw [if_neg e, if_neg (fun z => e (h1.trans z))]; exact ⟨h1, h2, h3⟩
theorem KT.put {H : Hp} {kvs : List (List Key × V)} {xs : List (List Key × Addr × Value)} (r : KT H kvs xs) (k : List Key) {b : Addr} {y : V} {u : Value} (hb : H b = some (.tup (k.map kV))) (ry : RelV y u) :
    KT H (putK kvs k y) (storedH xs k b u) := by
  have e : (kvs.any fun kv => decide (kv.1 = k)) = (atKey xs k).isSome := by
    rw [valV_any, (r.val k).isSome_eq, Option.isSome_map]
  unfold putK storedH
  rw [e]
  by_cases q : (atKey xs k).isSome = true
  · rw [if_pos q, if_pos q]; exact r.repl k ry
  · rw [if_neg q, if_neg q]; exact Paired.snoc r ⟨rfl, hb, ry⟩
theorem KT.keeps {H H' : Hp} {kvs : List (List Key × V)} {xs : List (List Key × Addr × Value)} (r : KT H kvs xs) (ht : ∀ b ys, H b = some (.tup ys) → H' b = some (.tup ys)) : KT H' kvs xs :=
  Paired.mapP r fun _ _ z => ⟨z.1, ht _ _ z.2.1, z.2.2⟩

section
variable {P : Program} {w : World} {H : Hp} {h : Heap} {a : Addr}
theorem rd_of {u : HO} (ok : HOk P w H h) (e : Rd H a u) : ObjOk P w H h a u := e.ok ok
theorem dk_rd {kvs : List (Key × V)} (ok : HOk P w H h) (e : Rd H a (.dK kvs)) : kvs.length ≤ sizeLine ∧ (a == sysModules) = false ∧ ∃ vs, KV kvs vs ∧ h.DictOf (mixKind P w) a vs :=
  show ObjOk P w H h a (.dK kvs) from rd_of ok e
end

/-- what the dict at a holds at the key y -/
def DGet (H : Hp) (a : Addr) (y : V) (r : Option V) : Prop :=
  (∃ kvs k, Rd H a (.dK kvs) ∧ y = kV k ∧ r = valV kvs k) ∨ ∃ kvs k b, Rd H a (.dT kvs) ∧ y = .ref b ∧ H b = some (.tup (k.map kV)) ∧ r = valV kvs k
/-- the heap behind a[y] = v -/
def DPut (H : Hp) (a : Addr) (y v : V) (H' : Hp) : Prop :=
  (∃ kvs k, H a = some (.dK kvs) ∧ y = kV k ∧ kvs.length < sizeLine ∧ H' = upd H a (.dK (putK kvs k v))) ∨
  ∃ kvs k b, H a = some (.dT kvs) ∧ y = .ref b ∧ H b = some (.tup (k.map kV)) ∧ kvs.length < sizeLine ∧ H' = upd H a (.dT (putK kvs k v))
theorem DGet.k {H : Hp} {a : Addr} {kvs : List (Key × V)} {k : Key} (e : H a = some (.dK kvs)) : DGet H a (kV k) (valV kvs k) := .inl ⟨kvs, k, .inl e, rfl, rfl⟩
theorem DGet.t {H : Hp} {a b : Addr} {kvs : List (List Key × V)} {k : List Key} (e : H a = some (.dT kvs)) (eb : H b = some (.tup (k.map kV))) : DGet H a (.ref b) (valV kvs k) := .inr ⟨kvs, k, b, .inl e, rfl, eb, rfl⟩
theorem DPut.k {H : Hp} {a : Addr} {kvs : List (Key × V)} {k : Key} {v : V} (e : H a = some (.dK kvs)) (hl : kvs.length < sizeLine) : DPut H a (kV k) v (upd H a (.dK (putK kvs k v))) := .inl ⟨kvs, k, e, rfl, hl, rfl⟩
theorem DPut.t {H : Hp} {a b : Addr} {kvs : List (List Key × V)} {k : List Key} {v : V} (e : H a = some (.dT kvs)) (eb : H b = some (.tup (k.map kV))) (hl : kvs.length < sizeLine) :
    DPut H a (.ref b) v (upd H a (.dT (putK kvs k v))) := .inr ⟨kvs, k, b, e, rfl, eb, hl, rfl⟩


section
variable {X : Cx} {pins : List (Addr × Obj)} {σ : St} {H : Hp} {s : Shared} {a : Addr} {y v : V} {u r : Value} {o : Option V} {A : Around} {E : Value → Shared → Prop}

end

section
variable {X : Cx} {pins : List (Addr × Obj)} {σ : St} {H : Hp} {s : Shared} {a : Addr} {kvs : List (Key × V)} {k : Key} {u : Value} {A : Around} {E : Value → Shared → Prop}
/-- len(d) -/
theorem d_len {Q : Value → Shared → Prop} (I : Inv X pins σ H s) (e : Rd H a (.dK kvs)) (h : ∀ t s', Inv X pins σ H s' → Q (.int kvs.length t) s') : wpAny (model X.prog X.w) A (call (.builtin "len") [.ref a]) Q E s := by
  obtain ⟨z, hd, vs, rel, dd⟩ := dk_rd I.hok e
  refine call_len_dict hd dd (by rw [← rel.length]; rw [sizeLine_eq] at z; omega) ?_
  rw [← rel.length]
  exact h _ _ (I.tok _)
end


/-! ### readings and rules -/
/-- the element of a subscription, not a slice -/
def NoSl (i : Expr) : Prop := ∀ ov iv, subscripted i false ov iv = operate [ov, iv] (getItem ov iv)
/-- d[y] -/
def tDGet (td ty : TE) : TE := fun σ H Q => td σ H fun x H1 => ty σ H1 fun y H2 => ∃ a v, x = .ref a ∧ DGet H2 a y (some v) ∧ Q v H2
/-- y in d, y not in d -/
def tDIn (ty td : TE) : TE := fun σ H Q => ty σ H fun y H1 => td σ H1 fun x H2 => ∃ a o, x = .ref a ∧ DGet H2 a y o ∧ Q (.bl o.isSome) H2
def tDNotIn (ty td : TE) : TE := fun σ H Q => ty σ H fun y H1 => td σ H1 fun x H2 => ∃ a o, x = .ref a ∧ DGet H2 a y o ∧ Q (.bl (!o.isSome)) H2
/-- d[y] = v -/
def sDPut (td ty tv : TE) : TS := fun D σ H => tv σ H fun v H1 => td σ H1 fun x H2 => ty σ H2 fun y H3 => ∃ a H4, x = .ref a ∧ DPut H3 a y v H4 ∧ D.nx σ H4
/-- d[y] op= v -/
def sDAug (td ty tv : TE) (rd : V → V → Hp → VK → Prop) : TS := fun D σ H => td σ H fun x H1 => ty σ H1 fun y H2 => ∃ a v, x = .ref a ∧ DGet H2 a y (some v) ∧
  tv σ H2 fun y2 H3 => rd v y2 H3 fun z H4 => ∃ H5, DPut H4 a y z H5 ∧ D.nx σ H5
/-- del d[y] -/
def sDDel (td ty : TE) : TS := fun D σ H => td σ H fun x H1 => ty σ H1 fun y H2 => ∃ a kvs k, x = .ref a ∧ H2 a = some (.dK kvs) ∧ y = kV k ∧ (valV kvs k).isSome = true ∧ D.nx σ (upd H2 a (.dK (dropK kvs k)))

section
variable {X : Cx} {o i e value : Expr} {pos pos' tpos : Pos} {td ty tv : TE}
end


/-! ### displays -/
/-- {}, to be a dict of the kind that is wanted -/
def tDNewK : TE := fun _ H Q => ∀ p, H p = none → Q (.ref p) (upd H p (.dK []))
def tDNewT : TE := fun _ H Q => ∀ p, H p = none → Q (.ref p) (upd H p (.dT []))
section
variable {X : Cx} {pos : Pos}
end

/-- the pairs of a display, from the left -/
def tPairs : List (TE × TE) → St → Hp → (List (V × V) → Hp → Prop) → Prop
  | [], _, H, Q => Q [] H
  | (tk, tv) :: r, σ, H, Q => tk σ H fun x H1 => tv σ H1 fun y H2 => tPairs r σ H2 fun ps H3 => Q ((x, y) :: ps) H3
abbrev VV : List (V × V) → List (Value × Value) → Prop := Paired fun p q => RelV p.1 q.1 ∧ RelV p.2 q.2
def PPs (X : Cx) (pos : Pos) (keys : List (Option Expr)) (values : List Expr) (trs : List (TE × TE)) : Prop :=
  ∀ (pins : List (Addr × Obj)) (s : Shared) (σ : St) (H : Hp) (Q : List (V × V) → Hp → Prop), Inv X pins σ H s → tPairs trs σ H Q →
    wpAny (model X.prog X.w) X.A (evalPairs (pairTrees keys values X.env pos)) (fun vs s' => ∃ ps H', Inv X pins σ H' s' ∧ VV ps vs ∧ Q ps H') X.xe s
def mergeK (kvs more : List (Key × V)) : List (Key × V) := more.foldl (fun acc kv => putK acc kv.1 kv.2) kvs
/-- {k: v, ..} with keys ints and texts; the new dict stands empty while the pairs are made -/
def tDisp (trs : List (TE × TE)) : TE := fun σ H Q => ∀ p, H p = none → tPairs trs σ (upd H p (.dK [])) fun ps H2 => H2 p = some (.dK []) ∧ ∃ kvs : List (Key × V), ps = kvs.map (fun kv => (kV kv.1, kv.2)) ∧ kvs.length ≤ 15 ∧ Q (.ref p) (upd H2 p (.dK (mergeK [] kvs)))
/-! ### methods -/
/-- a method call o.m(e) of a built-in, with one argument: what must be seen of the text -/
structure M1 (X : Cx) (o : Expr) (m : Str) (apos : Pos) (e : Expr) (cpos : Pos) : Prop where
  base : attributeBase o m X.env (eval o X.env) = eval o X.env
  few : ((backTo cpos (starEach [e] X.env)).all (fun x => !x.1) && (backToKw cpos (keywordEach [] X.env)).all (fun x => x.1.isSome)
    && decide (([e] : List Expr).length + ([] : List Keyword).length + (if ([] : List Keyword).isEmpty then 0 else 1) < 30)) = true
  line : (apos.endLine == cpos.line) = true
  trees : backTo cpos (starEach [e] X.env) = [(false, eval e X.env)]
structure M2 (X : Cx) (o : Expr) (m : Str) (apos : Pos) (e f : Expr) (cpos : Pos) : Prop where
  base : attributeBase o m X.env (eval o X.env) = eval o X.env
  few : ((backTo cpos (starEach [e, f] X.env)).all (fun x => !x.1) && (backToKw cpos (keywordEach [] X.env)).all (fun x => x.1.isSome)
    && decide (([e, f] : List Expr).length + ([] : List Keyword).length + (if ([] : List Keyword).isEmpty then 0 else 1) < 30)) = true
  line : (apos.endLine == cpos.line) = true
  trees : backTo cpos (starEach [e, f] X.env) = [(false, eval e X.env), (false, eval f X.env)]

/-- a is a dict, whatever its keys -/
def IsD (H : Hp) (a : Addr) : Prop := (∃ kvs, Rd H a (.dK kvs)) ∨ ∃ kvs, Rd H a (.dT kvs)
section
variable {X : Cx} {pins : List (Addr × Obj)} {σ : St} {H : Hp} {s : Shared} {a : Addr} {y d : V} {u r : Value} {o : Option V} {A : Around} {E : Value → Shared → Prop}
end

def tDGet1 (td ty : TE) : TE := fun σ H Q => td σ H fun x H1 => ∃ a, x = .ref a ∧ IsD H1 a ∧ ty σ H1 fun y H2 => ∃ o, DGet H2 a y o ∧ Q (o.getD .non) H2
def tDGet2 (td ty tx : TE) : TE := fun σ H Q => td σ H fun x H1 => ∃ a, x = .ref a ∧ IsD H1 a ∧ ty σ H1 fun y H2 => tx σ H2 fun z H3 => ∃ o, DGet H3 a y o ∧ Q (o.getD z) H3
/-- d.pop(k): there; d.pop(k, x): there or not -/
def tDPop1 (td ty : TE) : TE := fun σ H Q => td σ H fun x H1 => ∃ a, x = .ref a ∧ IsD H1 a ∧ ty σ H1 fun y H2 => ∃ kvs k v, H2 a = some (.dK kvs) ∧ y = kV k ∧ valV kvs k = some v ∧ Q v (upd H2 a (.dK (dropK kvs k)))
def tDPop2 (td ty tx : TE) : TE := fun σ H Q => td σ H fun x H1 => ∃ a, x = .ref a ∧ IsD H1 a ∧ ty σ H1 fun y H2 => tx σ H2 fun z H3 => ∃ kvs k, H3 a = some (.dK kvs) ∧ y = kV k ∧
  (∀ v, valV kvs k = some v → Q v (upd H3 a (.dK (dropK kvs k)))) ∧ (valV kvs k = none → Q z H3)
section
variable {X : Cx} {o e f : Expr} {apos cpos : Pos} {td ty tx : TE}
end

/-! ### dict(d): a copy -/
section
variable {X : Cx} {pins : List (Addr × Obj)} {σ : St} {H : Hp} {s : Shared} {a : Addr} {kvs : List (Key × V)} {A : Around} {E : Value → Shared → Prop}
end


section
variable {X : Cx} {pins : List (Addr × Obj)} {σ : St} {H : Hp} {s : Shared} {a : Addr} {y : V} {u : Value} {A : Around} {E : Value → Shared → Prop}
end
section
variable {X : Cx}
end
/-! ### a dict's pairs: keys that differ -/
section
variable {κ : Type} [DecidableEq κ]
end
end L2
set_option maxRecDepth 100000
namespace L2
open PySem PySem.Spec PyProof.Rows
section
variable {X : Cx}
theorem PE.imp {e : Expr} {t t' : TE} (h : PE X e t) (hi : ∀ σ H Q, t' σ H Q → t σ H Q) : PE X e t' := fun pins s σ H Q I q => h pins s σ H Q I (hi _ _ _ q)
theorem PT.imp {e : Expr} {t t' : TT} (h : PT X e t) (hi : ∀ σ H Q, t' σ H Q → t σ H Q) : PT X e t' := fun pins s σ H Q I q => h pins s σ H Q I (hi _ _ _ q)
theorem PW.imp {e : Expr} {t t' : TT} (h : PW X e t) (hi : ∀ σ H Q, t' σ H Q → t σ H Q) : PW X e t' := fun wh pins s σ H Q I q => h wh pins s σ H Q I (hi _ _ _ q)
theorem PA.imp {e : List Expr} {t t' : TA} (h : PA X e t) (hi : ∀ σ H Q, t' σ H Q → t σ H Q) : PA X e t' := fun pos pins s σ H Q I q => h pos pins s σ H Q I (hi _ _ _ q)
theorem PS.imp {e : Stmt} {t t' : TS} (h : PS X e t) (hi : ∀ D σ H, t' D σ H → t D σ H) : PS X e t' := fun pins s σ H D I q => h pins s σ H D I (hi _ _ _ q)
theorem PSs.imp {e : List Stmt} {t t' : TS} (h : PSs X e t) (hi : ∀ D σ H, t' D σ H → t D σ H) : PSs X e t' := fun pins s σ H D I q => h pins s σ H D I (hi _ _ _ q)
theorem PG.imp {e : Expr} {t t' : TG} (h : PG X e t) (hi : ∀ v σ H Q, t' v σ H Q → t v σ H Q) : PG X e t' := fun pins s σ H v u Q I r q => h pins s σ H v u Q I r (hi _ _ _ _ q)
end
end L2
namespace L2
open PySem PySem.Spec PyProof.Rows
section
variable {prog : Program} {w : World} {A : Around} {R : Result → Shared → Prop} {s : Shared}
/-- a comprehension's loop, turn by turn; no error leaves it -/
theorem comp_loop {elt target iter : Expr} {ifs : List Expr} {scope : Scope} {pos : Pos} {it acc : Value} {env : Env} (I : Nat → Shared → Prop)
    (turn : ∀ n s, I n s → wpAny (model prog w) A (pyNext it) (fun r s₁ => match r with
      | none => R (.ok .next) s₁
      | some v => wpAny (model prog w) A (letOwnedTupleGo target it v) (fun _ s₁' => wpAny (model prog w) A (assign target env v) (fun _ s₂ =>
          wpAny (model prog w) A (forIn ifs true fun c r => if r = true then do let ok ← isTrue c env (eval c env); pure (ForInStep.yield ok) else pure (ForInStep.yield r)) (fun ok s₃ =>
            if ok = true then wpAny (model prog w) A (eval elt env) (fun x s₄ =>
              wpAny (model prog w) A (call (.builtin "list.append") [acc, x]) (fun _ s₅ => ∃ m, m < n ∧ I m s₅) (fun _ _ => False) s₄) (fun _ _ => False) s₃
            else ∃ m, m < n ∧ I m s₃) (fun _ _ => False) s₂) (fun _ _ => False) s₁') (fun _ _ => False) s₁) (fun _ _ => False) s)
    (n : Nat) (h : I n s) : codeAny (model prog w) A (.compLoop (.ListComp elt [⟨target, iter, ifs, 0⟩] scope pos) 0 it acc env) R s := by
  refine codeAny_loop rfl I (fun n s hI => ?_) n h
  show wpAny _ A ((compTurn (.ListComp elt [⟨target, iter, ifs, 0⟩] scope pos) 0 it acc env).onRaise (fun x => do noteFrame x env; theTreesLotGoes x)) _ _ s
  refine wpAny_noted ?_
  rw [compTurn_list]
  refine wpAny_mono (E := fun _ _ => False) ?_ (fun _ _ q => q) (fun _ _ q => q.elim)
  refine wpAny_bind (wpAny_standAt (wpAny_bind (wpAny_mono (turn n s hI) (fun r s₁ h₁ => ?_) fun _ _ h' => h')))
  cases r with
  | none => exact wpAny_pure h₁
  | some v =>
    refine wpAny_bind (wpAny_mono h₁ (fun _ s₁' h₁' => ?_) fun _ _ h' => h')
    refine wpAny_bind (wpAny_mono h₁' (fun _ s₂ h₂ => wpAny_bind (wpAny_mono h₂ (fun ok s₃ h₃ => ?_) fun _ _ h' => h')) fun _ _ h' => h')
    cases ok with
    | false => exact wpAny_pure ⟨rfl, h₃⟩
    | true =>
      exact wpAny_bind (wpAny_bind (wpAny_mono h₃ (fun x s₄ h₄ => wpAny_bind (wpAny_mono h₄ (fun _ s₅ h₅ => wpAny_pure (wpAny_pure ⟨rfl, h₅⟩)) fun _ _ h' => h')) fun _ _ h' => h'))
end

/-! ### the names of a comprehension's block -/
def clOf (f : Str → Option Addr) : List (Str × NameKind) → List (Str × Addr) → List (Str × Addr)
  | [], acc => acc
  | (n, k) :: r, acc => if k == .free then (match f n with
    | some c => clOf f r ((n, c) :: acc)
    | none => clOf f r acc) else clOf f r acc
theorem clOf_mem {f : Str → Option Addr} : ∀ {names : List (Str × NameKind)} {acc : List (Str × Addr)} {x : Str} {c : Addr}, (x, c) ∈ clOf f names acc → (x, c) ∈ acc ∨ f x = some c
  | [], acc, x, c, h => .inl h
  | (n, k) :: r, acc, x, c, h => by
    unfold clOf at h
    split at h
    · cases e : f n with
      | none => rw [e] at h; exact clOf_mem h
      | some c' =>
        rw [e] at h
        rcases clOf_mem h with z | z
        · rcases List.mem_cons.mp z with z | z
          · cases z; exact .inr e
          · exact .inl z
        · exact .inr z
    · exact clOf_mem h
theorem clOf_acc {f : Str → Option Addr} : ∀ {names : List (Str × NameKind)} {acc : List (Str × Addr)} {p : Str × Addr}, p ∈ acc → p ∈ clOf f names acc
  | [], acc, p, h => h
  | (n, k) :: r, acc, p, h => by
    unfold clOf
    split
    · cases e : f n with
      | none => exact clOf_acc h
      | some c' => exact clOf_acc (List.mem_cons_of_mem _ h)
    · exact clOf_acc h
theorem clOf_has {f : Str → Option Addr} : ∀ {names : List (Str × NameKind)} {acc : List (Str × Addr)} {x : Str} {c : Addr}, (x, NameKind.free) ∈ names → f x = some c → ∃ c', (x, c') ∈ clOf f names acc
  | [], acc, x, c, h, _ => nomatch h
  | (n, k) :: r, acc, x, c, h, hf => by
    unfold clOf
    rcases List.mem_cons.mp h with z | z
    · cases z
      rw [if_pos (by decide), hf]
      exact ⟨c, clOf_acc List.mem_cons_self⟩
    · split
      · cases e : f n with
        | none => exact clOf_has z hf
        | some c' => exact clOf_has z hf
      · exact clOf_has z hf
theorem closure_is {scope : Scope} {env : Env} (h : ∀ y ∈ scope.names, y.2 = .free → ∃ c, env.cells.lookup y.1 = some c) : closureFor scope env = pure (clOf (fun x => env.cells.lookup x) scope.names []) := by
  unfold closureFor
  suffices H : ∀ (names : List (Str × NameKind)) (acc : List (Str × Addr)), (∀ y ∈ names, y.2 = .free → ∃ c, env.cells.lookup y.1 = some c) →
      (forIn names acc fun x cs => do
        match x with
        | (name, kind) => if (kind == .free) = true then do
            let a ← cellOf env name
            pure (ForInStep.yield ((name, a) :: cs)) else pure (ForInStep.yield cs) : Sem (List (Str × Addr))) = pure (clOf (fun x => env.cells.lookup x) names acc) by
    have := H scope.names [] h
    simp only [bind_pure] at this ⊢
    exact this
  intro names
  induction names with
  | nil => intro acc _; rfl
  | cons y r ih =>
    intro acc hh
    obtain ⟨n, k⟩ := y
    rw [List.forIn_cons]
    by_cases hk : (k == NameKind.free) = true
    · obtain ⟨c, hc⟩ := hh (n, k) List.mem_cons_self (by simpa using hk)
      simp only [hk, if_true, cellOf, hc, pure_bind, clOf]
      exact ih _ fun z hz => hh z (List.mem_cons_of_mem _ hz)
    · have hk' : (k == NameKind.free) = false := by simpa using hk
      simp only [hk', Bool.false_eq_true, if_false, pure_bind, clOf]
      exact ih _ fun z hz => hh z (List.mem_cons_of_mem _ hz)
theorem relabel_kind {env : Env} : ∀ {names : List (Str × NameKind)} {x : Str}, (∀ y ∈ names, y.2 ≠ .cell) →
    ((names.map fun (n, k) => if (k == NameKind.free && env.scope.kind == .function && env.kindOf n == some .cell) then (n, NameKind.cell) else (n, k)).lookup x = some .cell ∨
      (names.map fun (n, k) => if (k == NameKind.free && env.scope.kind == .function && env.kindOf n == some .cell) then (n, NameKind.cell) else (n, k)).lookup x = some .free) → (x, NameKind.free) ∈ names
  | [], x, _, h => by simp at h
  | (n, k) :: r, x, hc, h => by
    have ih := @relabel_kind env r x fun y hy => hc y (List.mem_cons_of_mem _ hy)
    simp only [List.map_cons] at h
    by_cases hk : (k == NameKind.free && env.scope.kind == .function && env.kindOf n == some .cell) = true
    · rw [if_pos hk] at h
      by_cases hx : (x == n) = true
      · have : x = n := by simpa using hx
        subst this
        have hkf : k = .free := by
          simp only [Bool.and_eq_true, beq_iff_eq] at hk
          exact hk.1.1
        subst hkf
        exact List.mem_cons_self
      · have hx' : (x == n) = false := by simpa using hx
        simp only [List.lookup_cons, hx'] at h
        exact List.mem_cons_of_mem _ (ih h)
    · rw [if_neg hk] at h
      by_cases hx : (x == n) = true
      · have : x = n := by simpa using hx
        subst this
        simp only [List.lookup_cons, beq_self_eq_true] at h
        rcases h with h | h
        · have := hc (x, k) List.mem_cons_self
          exact absurd (Option.some.inj h) this
        · have hkf : k = .free := Option.some.inj h
          subst hkf
          exact List.mem_cons_self
      · have hx' : (x == n) = false := by simpa using hx
        simp only [List.lookup_cons, hx'] at h
        exact List.mem_cons_of_mem _ (ih h)
theorem mem_lookup {l : List (Str × Addr)} {x : Str} {c : Addr} (h : (x, c) ∈ l) : ∃ c', l.lookup x = some c' := by
  induction l with
  | nil => cases h
  | cons p r ih =>
    obtain ⟨n, a⟩ := p
    by_cases hx : (x == n) = true
    · exact ⟨a, by simp only [List.lookup_cons, hx]⟩
    · have hx' : (x == n) = false := by simpa using hx
      simp only [List.lookup_cons, hx']
      rcases List.mem_cons.mp h with z | z
      · cases z; simp at hx
      · exact ih z
/-- what a comprehension's names must be: k names of its own, then those of the def that it reads, at the def's places ix -/
structure CNames (X : Cx) (scope : Scope) (N' : List Str) (k : Nat) (ix : List Nat) : Prop where
  cell : ∀ y ∈ scope.names, y.2 ≠ .cell
  kind : scope.kind = .function
  loc : ∀ y ∈ scope.names, y.2 = .local → scope.names.lookup y.1 = some .local
  fre : ∀ y ∈ scope.names, y.2 = .free → X.env.kindOf y.1 = some .cell ∨ X.env.kindOf y.1 = some .free
  len : N'.length = k + ix.length
  ref : ∀ (j i : Nat) (x : Str), ix[j]? = some i → N'[k + j]? = some x → X.N[i]? = some x ∧ (X.env.kindOf x = some .cell ∨ X.env.kindOf x = some .free) ∧ (relabel scope X.env).names.lookup x ≠ some .local
abbrev clX (X : Cx) (scope : Scope) : List (Str × Addr) := clOf (fun x => X.env.cells.lookup x) scope.names []
def blk (X : Cx) (N' : List Str) (scope : Scope) (C : Addr) (s2 : Shared) (H2 : Hp) (fp : List Addr) (pins : List (Addr × Obj)) : Cx :=
  { X with N := N', s₀ := s2, H₀ := H2, env := compEnvC scope (clX X scope) C X.env, outer := X.stack, ex := fp, fn := fun _ => false, pn := X.pn ++ pins, xe := fun _ _ => False }
def σin (k : Nat) (ix : List Nat) (σ : St) : St := List.replicate k none ++ ix.map fun i => (σ[i]?).join
section
variable {X : Cx} {pins : List (Addr × Obj)} {σ : St} {H2 : Hp} {s2 : Shared} {scope : Scope} {N' : List Str} {k : Nat} {ix : List Nat} {fp : List Addr}
theorem clX_sub {x : Str} {c : Addr} (h : (clX X scope).lookup x = some c) : X.env.cells.lookup x = some c := by
  rcases clOf_mem (PySem.mem_of_lookup h) with z | z
  · cases z
  · exact z
theorem blk_start {C D : Addr} {h1 : Heap} {tk : Nat} {m0 : Str → Option Value} (I : Inv X pins σ H2 s2) (hf : ∀ b ∈ fp, FpOk X pins H2 b) (hfo : ∀ b ∈ fp, b < s2.heap.objs.size) (S : CNames X scope N' k ix) (hD : D = s2.heap.objs.size) (hC : s2.heap.objs.size < C)
    (hns : h1.Ns C m0) (hk : ∀ b o, s2.heap.get? b = some o → h1.get? b = some o) (hl : h1.get? D = some { cls := .type "list", data := .seq ([] : List Value).toArray }) :
    Inv (blk X N' scope C s2 H2 fp pins) [] (σin k ix σ) (upd H2 D (.lst [])) { s2 with heap := h1, toks := tk } := by
  have hDn : H2 D = none := I.hok.fresh (by rw [hD]; exact Nat.le_refl _)
  have hCD : C ≠ D := by rw [hD]; exact Nat.ne_of_gt hC
  have freshC : H2 C = none := I.hok.fresh (Nat.le_of_lt hC)
  have has : ∀ x, ((compEnvC scope (clX X scope) C X.env).kindOf x = some .cell ∨ (compEnvC scope (clX X scope) C X.env).kindOf x = some .free) → ∃ c, (clX X scope).lookup x = some c := fun x hx => by
    have hm := relabel_kind (env := X.env) S.cell hx
    obtain ⟨c, hc⟩ := I.ok.has x (S.fre _ hm rfl)
    obtain ⟨c', hc'⟩ := clOf_has (f := fun x => X.env.cells.lookup x) (acc := []) hm hc
    exact mem_lookup hc'
  refine ⟨⟨I.ok.mod, S.kind, I.ok.glob, I.ok.blt, Nat.le_of_lt hC, fun x y c h1 h2 => I.ok.inj x y c (clX_sub h1) (clX_sub h2), has, fun x c z _ => absurd z Bool.false_ne_true, I.ok.hd, I.ok.frames, .inl rfl, fun b hb => ?_, I.bs, Nat.le_trans I.ok.bsz I.sz, fun b o e hb => ?_, fun b hb hs => ?_, I.stack, I.stkFree⟩,
    rfl, I.bare, ?_, ⟨m0, hns, fun i x v e1 e2 e3 => ?_⟩, fun x c e => ?_, ?_, fun x c e => ?_, fun p hp => ?_, ?_, ?_⟩
  · exact ⟨Nat.ne_of_lt (Nat.lt_trans (hfo b hb) hC), fun x c e z => (hf b hb).2.2.2.2.1 x c (clX_sub e) z⟩
  · rcases (hf b hb).2.2.2.1 with z | z
    · exact I.ok.noex b o e z
    · exact absurd (Nat.lt_of_lt_of_le (Heap.lt_size e) (Nat.le_trans I.ok.bsz z)) (Nat.lt_irrefl _)
  · rcases List.mem_cons.mp (I.stkSub b hs) with z | z
    · exact (hf b hb).2.1 z
    · exact (hf b hb).2.2.1 z
  · exact (Un.laid (fun b u q => hk b u q) (by rw [hD]; exact Nat.le_refl _) hDn)
  · have e2' : (List.replicate k none ++ ix.map fun i => (σ[i]?).join)[i]? = some (some v) := e2
    have hik : k ≤ i := by
      rcases Nat.lt_or_ge i k with z | z
      · rw [List.getElem?_append_left (by simpa using z), List.getElem?_replicate, if_pos z] at e2'
        cases e2'
      · exact z
    obtain ⟨j, rfl⟩ : ∃ j, i = k + j := ⟨i - k, by lia⟩
    rw [List.getElem?_append_right (by simp), List.length_replicate, Nat.add_sub_cancel_left, List.getElem?_map] at e2'
    cases ej : ix[j]? with
    | none => rw [ej] at e2'; cases e2'
    | some i0 =>
      rw [ej] at e2'
      have e4 : (σ[i0]?).join = some v := Option.some.inj e2'
      have e5 : σ[i0]? = some (some v) := by
        cases q : σ[i0]? with
        | none => rw [q] at e4; cases e4
        | some z => rw [q] at e4; exact congrArg some e4
      obtain ⟨r1, r2, r3⟩ := S.ref j i0 x ej e1
      obtain ⟨m, _, hl'⟩ := I.loc
      obtain ⟨u, hu, lk⟩ := hl' i0 x v r1 e5 (by rcases r2 with z | z; exact .inr (.inl z); exact .inr (.inr z))
      refine ⟨u, hu, ?_⟩
      rcases lk with ⟨z, _⟩ | ⟨_, c, hc, hcell⟩
      · rcases r2 with q | q <;> rw [z] at q <;> cases q
      · have kk : (compEnvC scope (clX X scope) C X.env).kindOf x = some .cell ∨ (compEnvC scope (clX X scope) C X.env).kindOf x = some .free := by
          rcases e3 with q | q
          · exact absurd q r3
          · exact q
        obtain ⟨c', hc'⟩ := has x kk
        have := clX_sub hc'
        rw [hc] at this; cases this
        obtain ⟨o, ho, hd⟩ := hcell
        exact .inr ⟨kk, c, hc', o, hk _ _ ho, hd⟩
  · obtain ⟨v, hv⟩ := I.cell x c (clX_sub e)
    obtain ⟨o, ho, hd⟩ := hv
    exact ⟨v, o, hk _ _ ho, hd⟩
  · show upd H2 D (.lst []) C = none
    rw [upd_ne hCD]; exact freshC
  · have e' := clX_sub (X := X) e
    show upd H2 D (.lst []) c = none
    obtain ⟨v, o, ho, _⟩ := I.cell x c e'
    rw [upd_ne (by rw [hD]; exact Nat.ne_of_lt (Heap.lt_size ho))]
    exact I.freeC x c e'
  · have hp' : p ∈ X.pn ++ pins := by
      have z : p ∈ (X.pn ++ pins) ++ [] := hp
      rwa [List.append_nil] at z
    obtain ⟨q1, q2, q3, q4, q5⟩ := I.pin p hp'
    have lt := Heap.lt_size q1
    refine ⟨hk _ _ q1, ?_, Nat.ne_of_lt (Nat.lt_trans lt hC), fun z => ?_, q5⟩
    · show upd H2 D (.lst []) p.1 = none
      rw [upd_ne (by rw [hD]; exact Nat.ne_of_lt lt)]; exact q2
    · rcases List.mem_cons.mp (I.stkSub p.1 z) with y | y
      · exact q3 y
      · exact q4 y
  · exact I.hok.laid hk (by rw [hD]; exact Nat.le_refl _) ⟨by simp, [], 0, .nil, hl⟩
  · show (List.replicate k none ++ ix.map fun i => (σ[i]?).join).length = N'.length
    rw [S.len]; simp
/-- tests of a comprehension: none, or one -/
def PCs (X : Cx) (ifs : List Expr) (t : TT) : Prop := ∀ (pins : List (Addr × Obj)) (s : Shared) (σ : St) (H : Hp) (Q : Bool → Hp → Prop), Inv X pins σ H s → t σ H Q →
  wpAny (model X.prog X.w) X.A (forIn ifs true fun c r => if r = true then do let ok ← isTrue c X.env (eval c X.env); pure (ForInStep.yield ok) else pure (ForInStep.yield r)) (TP X pins σ Q) X.xe s
def tYes : TT := fun _ H Q => Q true H
theorem pcs_nil {X : Cx} : PCs X [] tYes := fun pins s σ H Q I h => wpAny_tests_nil ⟨H, I, h⟩
def tComp (wi : TI) (g : TG) (gt : TT) (te : TE) (k : Nat) (ix : List Nat) : TE := fun σ H Q => wi σ H fun J H1 => ∀ D, H1 D = none → ∃ W : Nat → Nat → St → List V → Hp → Prop, (∃ m, W 0 m (σin k ix σ) [] (upd H1 D (.lst []))) ∧
  ∀ i m σ ys H, W i m σ ys H → H D = some (.lst ys) ∧ ((J.stop i H ∧ Q (.ref D) H) ∨ (J.go i H ∧ ys.length < sizeLine ∧ ∃ N : St → List V → Hp → Prop, (∀ σ' ys' H', N σ' ys' H' → ∃ m', m' < m ∧ W (i + 1) m' σ' ys' H') ∧
    ∀ x H', J.yld i H x H' → g x σ H' fun σ2 H2 => gt σ2 H2 fun b H3 => if b = true then te σ2 H3 fun y H4 => H4 D = some (.lst ys) ∧ N σ2 (ys ++ [y]) (upd H4 D (.lst (ys ++ [y]))) else N σ2 ys H3))
theorem comp_any {iter elt tg : Expr} {ifs : List Expr} {pos cpos : Pos} {wi : TI} {g : TG} {gt : TT} {te : TE} (hc : X.calm = true) (S : CNames X scope N' k ix) (hi : PI X tg iter wi)
    (hb : ∀ C s2 H2 fp pins, PG (blk X N' scope C s2 H2 fp pins) tg g ∧ PCs (blk X N' scope C s2 H2 fp pins) ifs gt ∧ PE (blk X N' scope C s2 H2 fp pins) elt te)
    (hs : ∀ x, foldedSetIterable iter X.env x = pure x) {use : Option (Value → Sem Unit)} {Q' : Value → Shared → Prop} {pins : List (Addr × Obj)} {s : Shared} {σ : St} {H : Hp} {Q : VK} (I : Inv X pins σ H s) (h : tComp wi g gt te k ix σ H Q)
    (fin : ∀ (D C : Addr) (H4 : Hp) (s5 : Shared), FpOk X pins H4 C → (∃ m, s5.heap.Ns C m) → (∀ h', Heap.SameBut C s5.heap h' → Inv X pins σ H4 { s5 with heap := h' }) → Q (.ref D) H4 → compPost (model X.prog X.w) X.A X.xe use Q' (.ref D) C (.ok .next) s5) :
    wpAny (model X.prog X.w) X.A (comprehension (.ListComp elt [⟨tg, iter, ifs, 0⟩] scope pos) scope X.env cpos (newList []) false (eval iter X.env) use) Q' X.xe s := by
  have hcl : closureFor scope X.env = pure (clX X scope) := closure_is fun y hy hk => I.ok.has y.1 (S.fre y hy hk)
  refine wpAny_comprehension_free (use := use) rfl hs hcl S.kind S.loc (wpAny_mono (hi pins s σ H _ I h) (fun v s1 h1 => wpAny_mono h1 (fun itv s2 h2 => ?_) fun _ _ e => e) fun _ _ e => e)
  obtain ⟨it, fp, tn, J, H2, e, I2, T, st2, f2, q⟩ := h2
  subst e
  refine wpAny_newObj_type (wpAny_newFunctionEnv S.cell (by intro y hy; simp at hy) (fun h₁ hns₁ hsb₁ => ?_) S.kind)
  dsimp only at hns₁ hsb₁ ⊢
  generalize hH2 : s2.heap.push { cls := .type "list", dict := none, data := .seq ([] : List Value).toArray } = G2 at hns₁ hsb₁ ⊢
  have hC : G2.objs.size = s2.heap.objs.size + 1 := by rw [← hH2, Heap.size_push]
  have hDC : s2.heap.objs.size ≠ G2.objs.size := by rw [hC]; exact Nat.ne_of_lt (Nat.lt_succ_self _)
  have below : ∀ b, b < s2.heap.objs.size → b ≠ G2.objs.size := fun b hb => by rw [hC]; exact Nat.ne_of_lt (Nat.lt_succ_of_lt hb)
  have old : ∀ b o, s2.heap.get? b = some o → h₁.get? b = some o := fun b o e => hsb₁.extBut b o (below b (Heap.lt_size e)) (Heap.get?_push_of_some _ (hH2 ▸ Heap.get?_push_of_some _ e))
  have hacc : h₁.get? s2.heap.objs.size = some { cls := .type "list", data := .seq ([] : List Value).toArray } := hsb₁.extBut _ _ hDC (Heap.get?_push_of_some _ (hH2 ▸ Heap.get?_push_size _ rfl))
  obtain ⟨W, ⟨m0, w0⟩, turn⟩ := q s2.heap.objs.size (I2.hok.fresh (Nat.le_refl _))
  have hfo : ∀ b ∈ fp, b < s2.heap.objs.size := fun b hb => by
    obtain ⟨o, ho, _⟩ := T.obj _ _ st2 b hb
    exact Heap.lt_size ho
  have I3 := blk_start (C := G2.objs.size) (D := s2.heap.objs.size) (h1 := h₁) (tk := s2.toks + ([] : List (Str × Value)).length) I2 f2 hfo S rfl (by rw [hC]; exact Nat.lt_succ_self _) hns₁ old hacc
  have st3 : tn 0 h₁ := T.keep _ _ _ st2 fun b hb o e => old b o e
  obtain ⟨hg, hcs, he⟩ := hb G2.objs.size s2 H2 fp pins
  have fpo : ∀ {H' : Hp}, (∀ b ∈ fp, H' b = none) → ∀ b ∈ fp, FpOk (blk X N' scope G2.objs.size s2 H2 fp pins) [] H' b := fun hn b hb => by
    obtain ⟨_, q1, q2, _, q4, q5⟩ := f2 b hb
    refine ⟨hn b hb, Nat.ne_of_lt (Nat.lt_trans (hfo b hb) (by rw [hC]; exact Nat.lt_succ_self _)), fun z => ?_, .inl hb, fun x c e z => q4 x c (clX_sub e) z, fun p hp => ?_⟩
    · rcases List.mem_cons.mp (I2.stkSub b z) with y | y
      · exact q1 y
      · exact q2 y
    · have z : p ∈ (X.pn ++ pins) ++ [] := hp
      rw [List.append_nil] at z
      exact q5 p z
  have loop : ∀ s3 : Shared, s3 = { s2 with heap := h₁, toks := s2.toks + ([] : List (Str × Value)).length } →
      codeAny (model X.prog X.w) X.A (.compLoop (.ListComp elt [⟨tg, iter, ifs, 0⟩] scope pos) 0 (.ref it) (.ref s2.heap.objs.size) (compEnvC scope (clX X scope) G2.objs.size X.env))
        (compPost (model X.prog X.w) X.A X.xe use Q' (.ref s2.heap.objs.size) G2.objs.size) s3 := by
    rintro s3 rfl
    refine comp_loop (fun n s' => ∃ i σ' ys H', Inv (blk X N' scope G2.objs.size s2 H2 fp pins) [] σ' H' s' ∧ tn i s'.heap ∧ (∀ b ∈ fp, H' b = none) ∧ W i n σ' ys H') ?_ m0 ⟨0, _, [], _, I3, st3, fun b hb => ?_, w0⟩
    · rintro n s4 ⟨i, σ4, ys, H4, I4, st4, fr4, w4⟩
      obtain ⟨hD4, w5⟩ := turn i n σ4 ys H4 w4
      rcases w5 with ⟨stop, qn⟩ | ⟨go, hlen, N, hN, step⟩
      · refine thn (T.done (blk X N' scope G2.objs.size s2 H2 fp pins) rfl rfl rfl hc i [] s4 σ4 H4 (fun _ _ => False) I4 (fpo fr4) st4 stop) fun r s5 ⟨hr, I5⟩ => ?_
        subst hr
        obtain ⟨m5, ns5, _⟩ := I5.loc
        have nC0 : H4 G2.objs.size = none := I5.free
        refine fin _ _ H4 s5 (I2.fpOk (by rw [hC]; exact Nat.le_succ _) nC0) ⟨m5, ns5⟩ (fun h' hs' => ?_) qn
        have off : ∀ b o, b ≠ G2.objs.size → s5.heap.get? b = some o → h'.get? b = some o := fun b o hb e => hs'.extBut b o hb e
        have nC : H4 G2.objs.size = none := I5.free
        have ne2 : ∀ b o, s2.heap.get? b = some o → b ≠ G2.objs.size := fun b o e => below b (Heap.lt_size e)
        have u5 := I5.base
        have un : Un (frs X.stack) fp H2 H4 s2.heap h' := ⟨fun b o e n hb hx => off b o (ne2 b o e) (u5.keep b o e n hb hx), fun b o e n hb hx => by
            obtain ⟨sl, q⟩ := u5.slot b o e n hb hx
            exact ⟨sl, off b _ (ne2 b o e) q⟩, u5.free, fun b o e hx => by
            obtain ⟨o', q⟩ := u5.there b o e hx
            exact ⟨o', off b o' (ne2 b o e) q⟩, u5.tups, u5.frzs, u5.tbls⟩
        have hok : HOk X.prog X.w H4 h' := fun b u e => (I5.hok b u e).stay (fun c v hc q => off c v (fun z => by
            rcases hc with y | y
            · rw [← y, z, nC] at e; cases e
            · rw [z, nC] at y; cases y) q) (fun _ q => q) fun _ _ q => q
        exact I2.call' (s' := { s5 with heap := h' }) (ch := fp) I5.os un hok I5.bare (fun b hb => by
          obtain ⟨_, q1, _, q3, q4, q5⟩ := f2 b hb
          exact ⟨q3, q1, q4, q5⟩)
      · refine thn (T.item (blk X N' scope G2.objs.size s2 H2 fp pins) rfl rfl rfl hc i [] s4 σ4 H4 (fun _ _ => False) I4 (fpo fr4) st4 go) fun r s5 ⟨u, hr, h5⟩ => ?_
        subst hr
        refine thn h5 fun _ s6 ⟨x, H6, I6, r6, y6, st6, fr6⟩ => ?_
        have I6' := I6.pinned (fpo fr6) (T.obj _ _ st6)
        refine thn (hg _ s6 σ4 H6 x u _ I6' r6 (step x H6 y6)) fun _ s7 ⟨σ7, H7, I7, q7⟩ => ?_
        refine thn (hcs _ s7 σ7 H7 _ I7 q7) fun ok s8 ⟨H8, I8, q8⟩ => ?_
        have again : ∀ {σ9 : St} {zs : List V} {H9 : Hp} {s9 : Shared}, Inv (blk X N' scope G2.objs.size s2 H2 fp pins) ([] ++ pinsAt fp s6.heap) σ9 H9 s9 → N σ9 zs H9 →
            ∃ m, m < n ∧ ∃ i σ' ys H', Inv (blk X N' scope G2.objs.size s2 H2 fp pins) [] σ' H' s9 ∧ tn i s9.heap ∧ (∀ b ∈ fp, H' b = none) ∧ W i m σ' ys H' := fun {σ9 zs H9 s9} I9 n9 => by
          obtain ⟨m', hm, w9⟩ := hN σ9 zs H9 n9
          refine ⟨m', hm, i + 1, σ9, zs, H9, I9.unpinned, T.keep _ _ _ st6 fun b hb o e => (I9.pin (b, o) (List.mem_append_right _ (List.mem_append_right _ (mem_pinsAt hb e)))).1, fun b hb => ?_, w9⟩
          obtain ⟨o, e, d⟩ := T.obj _ _ st6 b hb
          exact (I9.pin (b, o) (List.mem_append_right _ (List.mem_append_right _ (mem_pinsAt hb e)))).2.1
        cases ok with
        | false => exact again I8 q8
        | true =>
          refine thn (he _ s8 σ7 H8 _ I8 q8) fun xv s9 ⟨y, H9, I9, r9, hD9, n9⟩ => ?_
          exact thn (mt_append (X := blk X N' scope G2.objs.size s2 H2 fp pins) _ s9 σ7 H9 (.ref s2.heap.objs.size) [y] _ _ (fun v H' => H' = upd H9 s2.heap.objs.size (.lst (ys ++ [y]))) I9 rfl (.cons r9 .nil) ⟨_, ys, y, rfl, rfl, hD9, hlen, rfl⟩)
            fun _ s10 ⟨v10, H10, I10, _, e10⟩ => by subst e10; exact again I10 n9
    · show upd H2 s2.heap.objs.size (.lst []) b = none
      rw [upd_ne (Nat.ne_of_lt (hfo b hb))]
      exact (f2 b hb).1
  exact codeAny_compStart_list (loop _ rfl) (T.self _ 0 _ _ _ st3 (loop _ rfl))
theorem pe_comp {iter elt tg : Expr} {ifs : List Expr} {pos : Pos} {wi : TI} {g : TG} {gt : TT} {te : TE} (hc : X.calm = true) (S : CNames X scope N' k ix) (hi : PI X tg iter wi)
    (hb : ∀ C s2 H2 fp pins, PG (blk X N' scope C s2 H2 fp pins) tg g ∧ PCs (blk X N' scope C s2 H2 fp pins) ifs gt ∧ PE (blk X N' scope C s2 H2 fp pins) elt te)
    (hs : ∀ x, foldedSetIterable iter X.env x = pure x := by intro _; rfl) : PE X (.ListComp elt [⟨tg, iter, ifs, 0⟩] scope pos) (tComp wi g gt te k ix) := by
  intro pins s σ H Q I h
  rw [eval_ListComp]
  refine comp_any hc S hi hb hs I h fun D C H4 s5 _ ⟨m5, ns5⟩ iv q => ⟨m5, ns5, fun h' hs' => ⟨.ref D, H4, iv h' hs', rfl, q⟩⟩
/-- x = [.. for ..] on one row: the value is stored while the block still stands -/
theorem ps_comp {i : Nat} {x : Str} {pos' spos : Pos} {iter elt tg : Expr} {ifs : List Expr} {pos : Pos} {wi : TI} {g : TG} {gt : TT} {te : TE} (hN : X.N.Nodup) (hx0 : X.N[i]? = some x) (hx : Loc X.env.scope x)
    (hsw : swapsWith (.ListComp elt [⟨tg, iter, ifs, 0⟩] scope pos) (some (.Name x pos')) spos.line X.env = pure true)
    (hf : X.fn x = true ∨ X.env.scope.names.lookup x = some .local) (hc : X.calm = true) (S : CNames X scope N' k ix) (hi : PI X tg iter wi)
    (hb : ∀ C s2 H2 fp pins, PG (blk X N' scope C s2 H2 fp pins) tg g ∧ PCs (blk X N' scope C s2 H2 fp pins) ifs gt ∧ PE (blk X N' scope C s2 H2 fp pins) elt te)
    (hs : ∀ x, foldedSetIterable iter X.env x = pure x := by intro _; rfl) : PS X (.Assign [.Name x pos'] (.ListComp elt [⟨tg, iter, ifs, 0⟩] scope pos) spos) (tAsg (tComp wi g gt te k ix) (gName i)) := by
  intro pins s σ H D I h
  rw [exec_Assign_Name_used _ _ _ _ hsw]
  refine wpAny_bind (wpAny_standAt (wpAny_bind ?_))
  show wpAny _ X.A (do let _ ← comprehension (.ListComp elt [⟨tg, iter, ifs, 0⟩] scope pos) scope X.env _ (newList []) false (eval iter X.env) (some (assign (.Name x pos') X.env))) _ _ s
  refine wpAny_bind (wpAny_mono (comp_any (use := some (assign (.Name x pos') X.env)) (Q' := fun _ s' => SP X pins D .next s') hc S hi hb hs I h fun D' C H4 s5 fp ⟨m5, ns5⟩ iv q => ?_) (fun _ s' hq => wpAny_pure (wpAny_pure hq)) fun _ _ e => e)
  show wpAny _ X.A (assign (.Name x pos') X.env (.ref D')) _ _ s5
  have J : Inv X pins σ H4 s5 := iv s5.heap (Heap.SameBut.refl _ _)
  obtain ⟨oC, e1, e2, hoC, e3⟩ := id ns5
  have J' : Inv X (pins ++ pinsAt [C] s5.heap) σ H4 s5 := J.pinned (fp := [C]) (fun b hb => by rw [List.mem_singleton.mp hb]; exact fp) fun b hb => by
    rw [List.mem_singleton.mp hb]
    refine ⟨oC, hoC, fun v hv => ?_⟩
    rw [hv] at e3
    simp at e3
  refine wpAny_assign_Name (store_ok J' hN hx0 hx (show RelV (.ref D') (.ref D') from rfl) (fun s6 I6 => ?_) hf)
  have pC := I6.pin (C, oC) (List.mem_append_right _ (List.mem_append_right _ (mem_pinsAt List.mem_cons_self hoC)))
  refine ⟨m5, ⟨oC, e1, e2, pC.1, e3⟩, fun h' hs' => ?_⟩
  obtain ⟨q0, q1, q2, q3, q4, q5⟩ := fp
  have off : ∀ b o, b ≠ C → s6.heap.get? b = some o → h'.get? b = some o := fun b o hb e => hs'.extBut b o hb e
  have un : Un (frs X.stack) [C] H4 H4 s6.heap h' := ⟨fun b o e _ _ hx => off b o (fun z => hx (by rw [z]; exact List.mem_cons_self)) e, fun b o e _ _ hx => ⟨o.slots, off b o (fun z => hx (by rw [z]; exact List.mem_cons_self)) e⟩,
    fun _ _ _ n _ => n, fun b o e hx => ⟨o, off b o (fun z => hx (by rw [z]; exact List.mem_cons_self)) e⟩, fun _ _ e => e, fun _ _ _ e => e, fun b ps e => ⟨#[], by rw [Array.append_empty]; exact e⟩⟩
  have hok : HOk X.prog X.w H4 h' := fun b u e => (I6.hok b u e).stay (fun c v hc q => off c v (fun z => by
      rcases hc with y | y
      · rw [← y, z, q0] at e; cases e
      · rw [z, q0] at y; cases y) q) (fun _ q => q) fun _ _ q => q
  exact ⟨_, H4, I6.unpinned.call' (s' := { s6 with heap := h' }) (ch := [C]) rfl un hok I6.bare (fun b hb => by
    rw [List.mem_singleton.mp hb]
    exact ⟨q3, q1, q4, q5⟩), q⟩
/-- a comprehension, read or stored -/
structure CompR (X : Cx) (e : Expr) (te : TE) : Prop where
  pe : PE X e te
  ps : ∀ (i : Nat) (x : Str) (pos' spos : Pos), X.N.Nodup → X.N[i]? = some x → Loc X.env.scope x → swapsWith e (some (.Name x pos')) spos.line X.env = pure true → (X.fn x = true ∨ X.env.scope.names.lookup x = some .local) → PS X (.Assign [.Name x pos'] e spos) (tAsg te (gName i))
theorem CompR.imp {e : Expr} {te te' : TE} (h : CompR X e te) (k : ∀ σ H Q, te' σ H Q → te σ H Q) : CompR X e te' :=
  ⟨h.pe.imp k, fun i x pos' spos a b c d f => (h.ps i x pos' spos a b c d f).imp fun D σ H q => k σ H _ q⟩
theorem comp_r {iter elt tg : Expr} {ifs : List Expr} {pos : Pos} {wi : TI} {g : TG} {gt : TT} {te : TE} (hc : X.calm = true) (S : CNames X scope N' k ix) (hi : PI X tg iter wi)
    (hb : ∀ C s2 H2 fp pins, PG (blk X N' scope C s2 H2 fp pins) tg g ∧ PCs (blk X N' scope C s2 H2 fp pins) ifs gt ∧ PE (blk X N' scope C s2 H2 fp pins) elt te)
    (hs : ∀ x, foldedSetIterable iter X.env x = pure x := by intro _; rfl) : CompR X (.ListComp elt [⟨tg, iter, ifs, 0⟩] scope pos) (tComp wi g gt te k ix) :=
  ⟨pe_comp hc S hi hb hs, fun i x pos' spos a b c d f => ps_comp a b c d f hc S hi hb hs⟩
end
end L2
namespace DL
open PySem PySem.Spec PyProof.Rows L2
abbrev St := L2.St

/-! ### values as data -/
inductive D where
  | non | bl (b : Bool) | int (i : Int) | str (x : Str) | tup (xs : List D) | lst (xs : List D) | frl (xs : List D) | dic (ks : List Key) (ds : List D) | obj (c : Str) | dip (ks : List (List Key)) (ds : List D) | exc (c : Str) (ks : List Str) (ds : List D)
  deriving Inhabited
/-- an error that is raised: its class by name, what it bears -/
structure Exn where
  cls : Str
  args : List D
/-- what comes of a step: a value, an error, or nothing that is promised -/
inductive Ou (α : Type) where
  | ok (a : α) | ex (e : Exn) | bad
def Ou.bind {α β : Type} : Ou α → (α → Ou β) → Ou β
  | .ok a, f => f a
  | .ex e, _ => .ex e
  | .bad, _ => .bad
@[simp] theorem bind_ok {α β : Type} (a : α) (f : α → Ou β) : (Ou.ok a).bind f = f a := rfl
@[simp] theorem bind_ex {α β : Type} (e : Exn) (f : α → Ou β) : (Ou.ex e : Ou α).bind f = .ex e := rfl
@[simp] theorem bind_bad {α β : Type} (f : α → Ou β) : (Ou.bad : Ou α).bind f = .bad := rfl
/-- a name's slot: not bound; a value that is only read; a list of one's own that may be changed -/
inductive Sl where
  | un | val (d : D) | own (d : D)
abbrev DS := List Sl
abbrev Fn := DS → Ou D

/-- a list that nobody changes: the script, one of the module's own -/
def FrK (K : PySem.W.Frag) (H : Hp) (a : Addr) (xs : List V) : Prop :=
  (∃ o, H a = some (.frz o (.lst xs))) ∨
    ∃ (o : Obj) (its : Array Value) (n : Nat), K.lookup a = some o ∧ o.cls = .type "list" ∧ o.dict = none ∧ o.data = .seq its n ∧ its.size ≤ sizeLine ∧ Vals xs its.toList
theorem FrK.sq {K : PySem.W.Frag} {H : Hp} {a : Addr} {xs : List V} (h : FrK K H a xs) : SqL K H a xs := by
  rcases h with ⟨o, h⟩ | h
  · exact .inl (.inr ⟨o, h⟩)
  · exact .inr h
/-- an error that was made: its class, its own dict -/
def ExcAt (H : Hp) (a C : Addr) (dx : Option Addr) : Prop := ∃ φ, H a = some (.ext φ) ∧ ∀ h : Heap, φ h → ∃ o vs, h.get? a = some o ∧ o.cls = .ref C ∧ o.dict = dx ∧ o.data = .fields vs
mutual
def Rep (K : PySem.W.Frag) (B : Addr → Prop) (H : Hp) : D → V → Prop
  | .non, v => v = .non
  | .bl b, v => v = .bl b
  | .int i, v => v = .int i
  | .str x, v => v = .str x
  | .tup ds, v => ∃ a xs, v = .ref a ∧ SqT K H a xs ∧ Reps K B H ds xs
  | .lst ds, v => ∃ a xs, v = .ref a ∧ B a ∧ H a = some (.lst xs) ∧ Reps K B H ds xs
  | .frl ds, v => ∃ a xs, v = .ref a ∧ FrK K H a xs ∧ Reps K B H ds xs
  | .dic ks ds, v => ∃ a kvs, v = .ref a ∧ B a ∧ Rd H a (.dK kvs) ∧ kvs.map (·.1) = ks ∧ Reps K B H ds (kvs.map (·.2))
  | .obj c, v => ∃ a C dx, v = .ref a ∧ PySem.W.nsIn K mainGlobals c = some (some (.ref C)) ∧ B a ∧ H a = some (.ins C dx [])
  | .dip ks ds, v => ∃ a kvs, v = .ref a ∧ B a ∧ H a = some (.dT kvs) ∧ kvs.map (·.1) = ks ∧ Reps K B H ds (kvs.map (·.2))
  | .exc c ks ds, v => ∃ a C dx fs, v = .ref a ∧ PySem.W.nsIn K mainGlobals c = some (some (.ref C)) ∧ B a ∧ ExcAt H a C dx ∧ fs.map (·.1) = ks ∧ (ks = [] ∨ ∃ d, dx = some d ∧ B d ∧ H d = some (.xd fs)) ∧ Reps K B H ds (fs.map (·.2))
def Reps (K : PySem.W.Frag) (B : Addr → Prop) (H : Hp) : List D → List V → Prop
  | [], vs => vs = []
  | d :: ds, vs => ∃ v r, vs = v :: r ∧ Rep K B H d v ∧ Reps K B H ds r
end

section
variable {K : PySem.W.Frag} {B B' : Addr → Prop} {H H' : Hp}
theorem same_tup (e : Same H H') {a : Addr} {xs : List V} (h : SqT K H a xs) : SqT K H' a xs := by
  rcases h with (h | ⟨o, h⟩) | h
  · exact .inl (.inl (e _ _ h))
  · exact .inl (.inr ⟨o, e _ _ h⟩)
  · exact .inr h
/-- what stays: the tuples, and what stands at the addresses of B -/
structure Stay (K : PySem.W.Frag) (B : Addr → Prop) (H H' : Hp) : Prop where
  tup : ∀ a xs, SqT K H a xs → SqT K H' a xs
  frz : ∀ a xs, FrK K H a xs → FrK K H' a xs
  keep : ∀ a o, B a → H a = some o → H' a = some o
theorem same_frz (e : Same H H') {a : Addr} {xs : List V} (h : FrK K H a xs) : FrK K H' a xs := by
  rcases h with ⟨o, h⟩ | h
  · exact .inl ⟨o, e _ _ h⟩
  · exact .inr h
theorem Stay.of_same (e : Same H H') : Stay K B H H' := ⟨fun _ _ h => same_tup e h, fun _ _ h => same_frz e h, fun _ _ _ h => e _ _ h⟩
mutual
theorem Rep.mono (hB : ∀ a o, B a → H a = some o → B' a) (hs : Stay K B H H') : ∀ (d : D) (v : V), Rep K B H d v → Rep K B' H' d v
  | .non, _, h => by simpa [Rep] using h
  | .bl _, _, h => by simpa [Rep] using h
  | .int _, _, h => by simpa [Rep] using h
  | .str _, _, h => by simpa [Rep] using h
  | .tup ds, v, h => by
    simp only [Rep] at h ⊢
    obtain ⟨a, xs, e, h1, h2⟩ := h
    exact ⟨a, xs, e, hs.tup _ _ h1, Reps.mono hB hs ds xs h2⟩
  | .lst ds, v, h => by
    simp only [Rep] at h ⊢
    obtain ⟨a, xs, e, hb, h1, h2⟩ := h
    exact ⟨a, xs, e, hB _ _ hb h1, hs.keep _ _ hb h1, Reps.mono hB hs ds xs h2⟩
  | .frl ds, v, h => by
    simp only [Rep] at h ⊢
    obtain ⟨a, xs, e, h1, h2⟩ := h
    exact ⟨a, xs, e, hs.frz _ _ h1, Reps.mono hB hs ds xs h2⟩
  | .dic ks ds, v, h => by
    simp only [Rep] at h ⊢
    obtain ⟨a, kvs, e, hb, h1, hk, h2⟩ := h
    rcases h1 with h1 | ⟨o, h1⟩
    · exact ⟨a, kvs, e, hB _ _ hb h1, .inl (hs.keep _ _ hb h1), hk, Reps.mono hB hs ds _ h2⟩
    · exact ⟨a, kvs, e, hB _ _ hb h1, .inr ⟨o, hs.keep _ _ hb h1⟩, hk, Reps.mono hB hs ds _ h2⟩
  | .obj c, v, h => by
    simp only [Rep] at h ⊢
    obtain ⟨a, C, dx, e, hn, hb, h1⟩ := h
    exact ⟨a, C, dx, e, hn, hB _ _ hb h1, hs.keep _ _ hb h1⟩
  | .dip ks ds, v, h => by
    simp only [Rep] at h ⊢
    obtain ⟨a, kvs, e, hb, h1, hk, h2⟩ := h
    exact ⟨a, kvs, e, hB _ _ hb h1, hs.keep _ _ hb h1, hk, Reps.mono hB hs ds _ h2⟩
  | .exc c ks ds, v, h => by
    simp only [Rep] at h ⊢
    obtain ⟨a, C, dx, fs, e, hn, hb, ⟨φ, h1, h2⟩, hk, h3, h4⟩ := h
    refine ⟨a, C, dx, fs, e, hn, hB _ _ hb h1, ⟨φ, hs.keep _ _ hb h1, h2⟩, hk, ?_, Reps.mono hB hs ds _ h4⟩
    rcases h3 with h3 | ⟨d, h5, h6, h7⟩
    · exact .inl h3
    · exact .inr ⟨d, h5, hB _ _ h6 h7, hs.keep _ _ h6 h7⟩
theorem Reps.mono (hB : ∀ a o, B a → H a = some o → B' a) (hs : Stay K B H H') : ∀ (ds : List D) (vs : List V), Reps K B H ds vs → Reps K B' H' ds vs
  | [], _, h => by simpa [Reps] using h
  | d :: ds, vs, h => by
    simp only [Reps] at h ⊢
    obtain ⟨v, r, e, h1, h2⟩ := h
    exact ⟨v, r, e, Rep.mono hB hs d v h1, Reps.mono hB hs ds r h2⟩
end
theorem Rep.same {d : D} {v : V} (r : Rep K B H d v) (e : Same H H') : Rep K B H' d v := Rep.mono (fun _ _ h _ => h) (.of_same e) d v r
theorem Reps.same {ds : List D} {vs : List V} (r : Reps K B H ds vs) (e : Same H H') : Reps K B H' ds vs := Reps.mono (fun _ _ h _ => h) (.of_same e) ds vs r
theorem Rep.weak {d : D} {v : V} (r : Rep K B H d v) (hB : ∀ a, B a → B' a) : Rep K B' H d v := Rep.mono (fun a _ h _ => hB a h) (.of_same (Same.refl H)) d v r
theorem Reps.weak {ds : List D} {vs : List V} (r : Reps K B H ds vs) (hB : ∀ a, B a → B' a) : Reps K B' H ds vs := Reps.mono (fun a _ h _ => hB a h) (.of_same (Same.refl H)) ds vs r
theorem Reps.length : ∀ {ds : List D} {vs : List V}, Reps K B H ds vs → vs.length = ds.length
  | [], _, h => by simp only [Reps] at h; rw [h]; rfl
  | d :: ds, vs, h => by
    simp only [Reps] at h
    obtain ⟨v, r, rfl, _, h2⟩ := h
    simp [Reps.length h2]
theorem Reps.get : ∀ {ds : List D} {vs : List V}, Reps K B H ds vs → ∀ (i : Nat) (d : D), ds[i]? = some d → ∃ v, vs[i]? = some v ∧ Rep K B H d v
  | [], _, _ => fun i d e => by simp at e
  | d0 :: ds, vs, h => fun i d e => by
    simp only [Reps] at h
    obtain ⟨v, r, rfl, h1, h2⟩ := h
    cases i with
    | zero => simp at e; subst e; exact ⟨v, rfl, h1⟩
    | succ i => simpa using Reps.get h2 i d (by simpa using e)
theorem Reps.append : ∀ {ds es : List D} {vs us : List V}, Reps K B H ds vs → Reps K B H es us → Reps K B H (ds ++ es) (vs ++ us)
  | [], es, vs, us, h, h' => by simp only [Reps] at h; subst h; simpa using h'
  | d :: ds, es, vs, us, h, h' => by
    simp only [Reps] at h
    obtain ⟨v, r, rfl, h1, h2⟩ := h
    show Reps K B H (d :: (ds ++ es)) (v :: (r ++ us))
    simp only [Reps]
    exact ⟨v, r ++ us, rfl, h1, Reps.append h2 h'⟩
theorem Reps.one {d : D} {v : V} (h : Rep K B H d v) : Reps K B H [d] [v] := by
  simp only [Reps]; exact ⟨v, [], rfl, h, rfl⟩
theorem Reps.take : ∀ {ds : List D} {vs : List V} (n : Nat), Reps K B H ds vs → Reps K B H (ds.take n) (vs.take n)
  | [], _, n, h => by simp only [Reps] at h; subst h; simp [Reps]
  | d :: ds, vs, 0, h => by simp [Reps]
  | d :: ds, vs, n + 1, h => by
    simp only [Reps] at h
    obtain ⟨v, r, rfl, h1, h2⟩ := h
    simp only [List.take_succ_cons, Reps]
    exact ⟨v, r.take n, rfl, h1, Reps.take n h2⟩
theorem Reps.drop : ∀ {ds : List D} {vs : List V} (n : Nat), Reps K B H ds vs → Reps K B H (ds.drop n) (vs.drop n)
  | [], _, n, h => by simp only [Reps] at h; subst h; simp [Reps]
  | d :: ds, vs, 0, h => by simpa using h
  | d :: ds, vs, n + 1, h => by
    simp only [Reps] at h
    obtain ⟨v, r, rfl, h1, h2⟩ := h
    simpa using Reps.drop n h2
theorem Reps.set : ∀ {ds : List D} {vs : List V} (i : Nat) {d : D} {v : V}, Reps K B H ds vs → Rep K B H d v → Reps K B H (ds.set i d) (vs.set i v)
  | [], _, i, _, _, h, _ => by simp only [Reps] at h; subst h; simp [Reps]
  | d0 :: ds, vs, 0, d, v, h, h' => by
    simp only [Reps] at h
    obtain ⟨v0, r, rfl, h1, h2⟩ := h
    simp only [List.set_cons_zero, Reps]
    exact ⟨v, r, rfl, h', h2⟩
  | d0 :: ds, vs, i + 1, d, v, h, h' => by
    simp only [Reps] at h
    obtain ⟨v0, r, rfl, h1, h2⟩ := h
    simp only [List.set_cons_succ, Reps]
    exact ⟨v0, r.set i v, rfl, h1, Reps.set i h2 h'⟩
theorem Reps.reverse : ∀ {ds : List D} {vs : List V}, Reps K B H ds vs → Reps K B H ds.reverse vs.reverse
  | [], _, h => by simp only [Reps] at h; subst h; simp [Reps]
  | d :: ds, vs, h => by
    simp only [Reps] at h
    obtain ⟨v, r, rfl, h1, h2⟩ := h
    rw [List.reverse_cons, List.reverse_cons]
    exact Reps.append (Reps.reverse h2) (Reps.one h1)
theorem Reps.ints (ns : List Int) : Reps K B H (ns.map D.int) (ns.map V.int) := by
  induction ns with
  | nil => simp [Reps]
  | cons n r ih => simp only [List.map_cons, Reps]; exact ⟨_, _, rfl, by simp [Rep], ih⟩
end

/-! ### plain values -/
def toV : D → V
  | .bl b => .bl b
  | .int i => .int i
  | .str x => .str x
  | _ => .non
def isS : D → Bool
  | .non => true
  | .bl _ => true
  | .int _ => true
  | .str _ => true
  | _ => false
theorem Rep.ofS {K : PySem.W.Frag} {B : Addr → Prop} {H : Hp} {d : D} (h : isS d = true) : Rep K B H d (toV d) := by
  cases d <;> simp [isS, Rep, toV] at h ⊢
theorem Rep.toS {K : PySem.W.Frag} {B : Addr → Prop} {H : Hp} {d : D} {v : V} (h : isS d = true) (r : Rep K B H d v) : v = toV d := by
  cases d <;> simp [isS, Rep, toV] at h r ⊢ <;> exact r
mutual
/-- nothing within it can change -/
def imm : D → Bool
  | .tup ds => imms ds
  | .frl ds => imms ds
  | .lst _ => false
  | .dic _ _ => false
  | .obj _ => false
  | .dip _ _ => false
  | .exc _ _ _ => false
  | _ => true
def imms : List D → Bool
  | [] => true
  | d :: ds => imm d && imms ds
end
mutual
theorem Rep.imm {K : PySem.W.Frag} {B B' : Addr → Prop} {H : Hp} : ∀ (d : D) (v : V), imm d = true → Rep K B H d v → Rep K B' H d v
  | .non, _, _, h => by simpa [Rep] using h
  | .bl _, _, _, h => by simpa [Rep] using h
  | .int _, _, _, h => by simpa [Rep] using h
  | .str _, _, _, h => by simpa [Rep] using h
  | .tup ds, v, hi, h => by
    simp only [Rep] at h ⊢
    obtain ⟨a, xs, e, h1, h2⟩ := h
    exact ⟨a, xs, e, h1, Reps.imm ds xs (by simpa [DL.imm] using hi) h2⟩
  | .frl ds, v, hi, h => by
    simp only [Rep] at h ⊢
    obtain ⟨a, xs, e, h1, h2⟩ := h
    exact ⟨a, xs, e, h1, Reps.imm ds xs (by simpa [DL.imm] using hi) h2⟩
  | .lst ds, v, hi, h => by simp [DL.imm] at hi
  | .dic ks ds, v, hi, h => by simp [DL.imm] at hi
  | .obj C, v, hi, h => by simp [DL.imm] at hi
  | .dip ks ds, v, hi, h => by simp [DL.imm] at hi
  | .exc c ks ds, v, hi, h => by simp [DL.imm] at hi
theorem Reps.imm {K : PySem.W.Frag} {B B' : Addr → Prop} {H : Hp} : ∀ (ds : List D) (vs : List V), imms ds = true → Reps K B H ds vs → Reps K B' H ds vs
  | [], _, _, h => by simpa [Reps] using h
  | d :: ds, vs, hi, h => by
    simp only [Reps] at h ⊢
    obtain ⟨v, r, e, h1, h2⟩ := h
    simp only [imms, Bool.and_eq_true] at hi
    exact ⟨v, r, e, Rep.imm d v hi.1 h1, Reps.imm ds r hi.2 h2⟩
end

/-! ### what may be changed: a list, a dict -/
def RepO (K : PySem.W.Frag) (B : Addr → Prop) (H : Hp) : D → HO → Prop
  | .lst ds, o => ∃ xs, o = .lst xs ∧ Reps K B H ds xs
  | .dic ks ds, o => ∃ kvs, o = .dK kvs ∧ kvs.map (·.1) = ks ∧ Reps K B H ds (kvs.map (·.2))
  | .dip ks ds, o => ∃ kvs, o = .dT kvs ∧ kvs.map (·.1) = ks ∧ Reps K B H ds (kvs.map (·.2))
  | _, _ => False
section
variable {K : PySem.W.Frag} {B B' : Addr → Prop} {H H' : Hp}
theorem RepO.mono {d : D} {o : HO} (hB : ∀ a o, B a → H a = some o → B' a) (hs : Stay K B H H') (r : RepO K B H d o) : RepO K B' H' d o := by
  cases d <;> first | exact r.elim | skip
  · obtain ⟨xs, h1, h2⟩ := r
    exact ⟨xs, h1, Reps.mono hB hs _ _ h2⟩
  · obtain ⟨kvs, h1, h2, h3⟩ := r
    exact ⟨kvs, h1, h2, Reps.mono hB hs _ _ h3⟩
  · obtain ⟨kvs, h1, h2, h3⟩ := r
    exact ⟨kvs, h1, h2, Reps.mono hB hs _ _ h3⟩
theorem RepO.same {d : D} {o : HO} (r : RepO K B H d o) (e : Same H H') : RepO K B H' d o := r.mono (fun _ _ h _ => h) (.of_same e)
theorem RepO.weak {d : D} {o : HO} (r : RepO K B H d o) (hB : ∀ a, B a → B' a) : RepO K B' H d o := r.mono (fun a _ h _ => hB a h) (.of_same (Same.refl H))
theorem RepO.rep {d : D} {o : HO} {p : Addr} (r : RepO K B H d o) (h : H p = some o) (hp : B p) : Rep K B H d (.ref p) := by
  cases d <;> first | exact r.elim | skip
  · obtain ⟨xs, rfl, h2⟩ := r
    simp only [Rep]
    exact ⟨p, xs, rfl, hp, h, h2⟩
  · obtain ⟨kvs, rfl, h2, h3⟩ := r
    simp only [Rep]
    exact ⟨p, kvs, rfl, hp, .inl h, h2, h3⟩
  · obtain ⟨kvs, rfl, h2, h3⟩ := r
    simp only [Rep]
    exact ⟨p, kvs, rfl, hp, h, h2, h3⟩
theorem RepO.noT {d : D} {o : HO} (r : RepO K B H d o) (xs : List V) : HO.tup xs ≠ o := by
  cases d <;> first | exact r.elim | skip
  · obtain ⟨xs, rfl, h2⟩ := r; intro w; cases w
  · obtain ⟨kvs, rfl, h2, h3⟩ := r; intro w; cases w
  · obtain ⟨kvs, rfl, h2, h3⟩ := r; intro w; cases w
theorem RepO.noF {d : D} {o : HO} (r : RepO K B H d o) (ob : Obj) (u : HO) : HO.frz ob u ≠ o := by
  cases d <;> first | exact r.elim | skip
  · obtain ⟨xs, rfl, h2⟩ := r; intro w; cases w
  · obtain ⟨kvs, rfl, h2, h3⟩ := r; intro w; cases w
  · obtain ⟨kvs, rfl, h2, h3⟩ := r; intro w; cases w
end

/-! ### what a body knows -/
structure Cn where
  K : PySem.W.Frag
  B : Addr → Prop
  H₀ : Hp
  /-- what is walked by a loop around -/
  G : List (D × V)
  /-- what was handed in to be changed: its slot, its address -/
  P : Option (Nat × Addr) := none
def Own (σ : St) (δ : DS) (p : Addr) : Prop := ∃ (i : Nat) (ds : D), δ[i]? = some (Sl.own ds) ∧ σ[i]? = some (some (V.ref p))
def Av (c : Cn) (σ : St) (δ : DS) (a : Addr) : Prop := c.B a ∧ ¬ Own σ δ a
structure Abs (c : Cn) (σ : St) (δ : DS) (H : Hp) : Prop where
  same : Same c.H₀ H
  fr : ∀ a, H a = none → c.B a
  len : δ.length = σ.length
  val : ∀ (i : Nat) (d : D), δ[i]? = some (Sl.val d) → ∃ v, σ[i]? = some (some v) ∧ Rep c.K (Av c σ δ) H d v
  own : ∀ (i : Nat) (ds : D), δ[i]? = some (Sl.own ds) → ∃ p xs, σ[i]? = some (some (V.ref p)) ∧ H p = some xs ∧ (c.H₀ p = none ∧ c.B p) ∧ RepO c.K (Av c σ δ) H ds xs
  gho : ∀ d v, (d, v) ∈ c.G → Rep c.K (Av c σ δ) H d v
  inj : ∀ (i j : Nat) (di dj : D) (p : Addr), δ[i]? = some (Sl.own di) → δ[j]? = some (Sl.own dj) → σ[i]? = some (some (V.ref p)) → σ[j]? = some (some (V.ref p)) → i = j
  pin : ∀ (i : Nat) (p : Addr), c.P = some (i, p) → ∀ d, δ[i]? = some (Sl.own d) → σ[i]? = some (some (V.ref p))
section
variable {c : Cn} {σ : St} {δ : DS} {H H' : Hp}
theorem Abs.grow (a : Abs c σ δ H) (e : Same H H') : Abs c σ δ H' where
  same := a.same.trans e
  fr := fun b h => a.fr b (e.free h)
  len := a.len
  val := fun i d h => by obtain ⟨v, h1, h2⟩ := a.val i d h; exact ⟨v, h1, h2.same e⟩
  own := fun i ds h => by obtain ⟨p, xs, h1, h2, h3, h4⟩ := a.own i ds h; exact ⟨p, xs, h1, e _ _ h2, h3, h4.same e⟩
  gho := fun d v h => (a.gho d v h).same e
  inj := a.inj
  pin := a.pin
theorem Own.is (a : Abs c σ δ H) {p : Addr} (o : Own σ δ p) : ∃ xs, H p = some xs ∧ c.H₀ p = none := by
  obtain ⟨i, ds, h1, h2⟩ := o
  obtain ⟨p', xs, h3, h4, h5, _⟩ := a.own i ds h1
  rw [h2] at h3; cases h3
  exact ⟨xs, h4, h5.1⟩
/-- what is new is free to be used -/
theorem Abs.av_new (a : Abs c σ δ H) {p : Addr} (h : H p = none) : Av c σ δ p := by
  refine ⟨a.fr p h, fun o => ?_⟩
  obtain ⟨xs, h1, _⟩ := Own.is a o
  rw [h] at h1; cases h1
end

/-! ### expressions -/
/-- W: read alone; S: it may be kept; F: a new list -/
inductive Md where
  | W | S | F
def Post (c : Cn) (σ : St) (δ : DS) (H : Hp) (m : Md) (d : D) (v : V) (H' : Hp) : Prop :=
  match m with
  | .W => Rep c.K c.B H' d v
  | .S => Rep c.K (Av c σ δ) H' d v
  | .F => ∃ p xs, v = .ref p ∧ H p = none ∧ H' p = some xs ∧ RepO c.K (fun a => Av c σ δ a ∧ a ≠ p) H' d xs
/-- an error's wish, whatever the heap has become -/
def Wish (K : PySem.W.Frag) (E : XK) (H₀ : Hp) (e : Exn) : Prop := ∃ C, PySem.W.nsIn K mainGlobals e.cls = some (some (.ref C)) ∧ ∀ H', Same H₀ H' → E (.ref C) none H'
def Res {α : Type} (K : PySem.W.Frag) (E : XK) (H₀ : Hp) (o : Ou α) (k : α → Prop) : Prop :=
  match o with
  | .ok a => k a
  | .ex e => Wish K E H₀ e
  | .bad => False
theorem Res.bind {α β : Type} {K : PySem.W.Frag} {E : XK} {H₀ : Hp} {o : Ou α} {f : α → Ou β} {k : β → Prop} (h : Res K E H₀ (o.bind f) k) : Res K E H₀ o fun a => Res K E H₀ (f a) k := by
  cases o with
  | ok a => exact h
  | ex e => exact h
  | bad => exact h
theorem Res.imp {α : Type} {K : PySem.W.Frag} {E : XK} {H₀ : Hp} {o : Ou α} {k k' : α → Prop} (h : Res K E H₀ o k) (hi : ∀ a, o = .ok a → k a → k' a) : Res K E H₀ o k' := by
  cases o with
  | ok a => exact hi a rfl h
  | ex e => exact h
  | bad => exact h
def tX (K : PySem.W.Frag) (E : XK) (m : Md) (f : Fn) : TE := fun σ H Q => ∃ c δ, c.K = K ∧ Abs c σ δ H ∧ Res K E c.H₀ (f δ) fun d => ∀ v H', Same H H' → Post c σ δ H m d v H' → Q v H'
/-- .. seen from a part: the same body, the heap has grown -/
theorem tX.intro {K : PySem.W.Frag} {E : XK} {m : Md} {f : Fn} {c : Cn} {δ : DS} {σ : St} {H : Hp} {Q : VK} (hK : c.K = K) (a : Abs c σ δ H) (h : Res K E c.H₀ (f δ) fun d => ∀ v H', Same H H' → Post c σ δ H m d v H' → Q v H') : tX K E m f σ H Q := ⟨c, δ, hK, a, h⟩
theorem Post.toS {c : Cn} {σ : St} {δ : DS} {H H' : Hp} {d : D} {v : V} (a : Abs c σ δ H) (p : Post c σ δ H .F d v H') : Post c σ δ H .S d v H' := by
  obtain ⟨p, xs, rfl, h1, h2, h3⟩ := p
  show Rep _ _ _ _ _
  exact (h3.weak fun _ h => h.1).rep h2 (a.av_new h1)
def notF : Md → Bool
  | .F => false
  | _ => true
theorem Post.ofS {c : Cn} {σ : St} {δ : DS} {H H' : Hp} {m : Md} {d : D} (hm : notF m = true) (h : isS d = true) : Post c σ δ H m d (toV d) H' := by
  cases m with
  | W => exact Rep.ofS h
  | S => exact Rep.ofS h
  | F => simp [notF] at hm

/-! #### names, constants -/
def fVar (i : Nat) : Fn := fun δ => match δ[i]? with
  | some (.val d) => .ok d
  | some (.own d) => .ok d
  | _ => .bad
def fVarS (i : Nat) : Fn := fun δ => match δ[i]? with
  | some (.val d) => .ok d
  | _ => .bad
def fC (d : D) : Fn := fun _ => .ok d
section
variable {X : Cx} {E : XK} {m : Md} {a b : Expr} {fa fb : Fn} {pos : Pos}
theorem rd_var {K : PySem.W.Frag} {i : Nat} {σ : St} {H : Hp} {Q : VK} (h : tX K E .W (fVar i) σ H Q) : tVar i σ H Q := by
  obtain ⟨c, δ, rfl, ab, h⟩ := h
  unfold fVar at h
  cases e : δ[i]? with
  | none => rw [e] at h; exact h.elim
  | some s =>
    rw [e] at h
    cases s with
    | un => exact h.elim
    | val d =>
      obtain ⟨v, h1, h2⟩ := ab.val i d e
      exact ⟨v, h1, h v H (Same.refl H) (Rep.weak h2 fun _ z => z.1)⟩
    | own ds =>
      obtain ⟨p, xs, h1, h2, h3, h4⟩ := ab.own i ds e
      refine ⟨.ref p, h1, h (.ref p) H (Same.refl H) ?_⟩
      show Rep _ _ _ _ _
      exact (h4.weak fun _ z => z.1).rep h2 h3.2
theorem rd_varS {K : PySem.W.Frag} {i : Nat} {σ : St} {H : Hp} {Q : VK} (h : tX K E .S (fVarS i) σ H Q) : tVar i σ H Q := by
  obtain ⟨c, δ, rfl, ab, h⟩ := h
  unfold fVarS at h
  cases e : δ[i]? with
  | none => rw [e] at h; exact h.elim
  | some s =>
    rw [e] at h
    cases s with
    | un => exact h.elim
    | val d =>
      obtain ⟨v, h1, h2⟩ := ab.val i d e
      exact ⟨v, h1, h v H (Same.refl H) h2⟩
    | own ds => exact h.elim
theorem xv (i : Nat) {x : Str} (hN : X.N[i]? = some x := by rfl) (hv : Vis X.env.scope x := by first | exact Or.inl rfl | exact Or.inr (Or.inl rfl) | exact Or.inr (Or.inr rfl)) (hd : (x == ("__debug__" : Str)) = false := by decide)
    (hcd : (x == ("__classdict__" : Str)) = false := by decide) : PE X (.Name x pos) (tX X.K E .W (fVar i)) := PE.imp (pv i hN hv hd hcd) fun _ _ _ h => rd_var h
theorem xvS (i : Nat) {x : Str} (hN : X.N[i]? = some x := by rfl) (hv : Vis X.env.scope x := by first | exact Or.inl rfl | exact Or.inr (Or.inl rfl) | exact Or.inr (Or.inr rfl)) (hd : (x == ("__debug__" : Str)) = false := by decide)
    (hcd : (x == ("__classdict__" : Str)) = false := by decide) : PE X (.Name x pos) (tX X.K E .S (fVarS i)) := PE.imp (pv i hN hv hd hcd) fun _ _ _ h => rd_varS h
theorem rd_c {K : PySem.W.Frag} {d : D} {σ : St} {H : Hp} {Q : VK} (hm : notF m = true) (hs : isS d = true) (h : tX K E m (fC d) σ H Q) : tC (toV d) σ H Q := by
  obtain ⟨c, δ, rfl, ab, h⟩ := h
  exact h _ H (Same.refl H) (Post.ofS hm hs)
theorem xint {i j} (hm : notF m = true := by rfl) : PE X (.Constant (.int i) j pos) (tX X.K E m (fC (.int i))) := PE.imp pe_int fun _ _ _ h => rd_c hm rfl h
theorem xbl {i j} (hm : notF m = true := by rfl) : PE X (.Constant (.bool i) j pos) (tX X.K E m (fC (.bl i))) := PE.imp pe_bl fun _ _ _ h => rd_c hm rfl h
theorem xstr {i j} (hm : notF m = true := by rfl) : PE X (.Constant (.str i) j pos) (tX X.K E m (fC (.str i))) := PE.imp pe_str fun _ _ _ h => rd_c hm rfl h

/-! #### weaker forms -/
theorem toS (h : PE X a (tX X.K E .F fa)) : PE X a (tX X.K E .S fa) := h.imp fun σ H Q q => by
  obtain ⟨c, δ, hK, ab, q⟩ := q
  exact ⟨c, δ, hK, ab, q.imp fun d _ k v H' e p => k v H' e (Post.toS ab p)⟩
/-- what can't change may be kept -/
def fUp (f : Fn) : Fn := fun δ => (f δ).bind fun d => if imm d = true then .ok d else .bad
/-! #### two operands -/
def f2 (g : D → D → Ou D) (fa fb : Fn) : Fn := fun δ => (fa δ).bind fun x => (fb δ).bind fun y => g x y
/-- an operation on values whose answer is plain -/
def OpD (X : Cx) (f : Value → Value → Sem Value) (g : D → D → Ou D) : Prop :=
  ∃ r, OpR X f r ∧ ∀ (B : Addr → Prop) (H : Hp) (dx dy : D) (x y : V) (Q : VK), Rep X.K B H dx x → Rep X.K B H dy y → match g dx dy with
    | .ok d => isS d = true ∧ (Q (toV d) H → r x y H Q)
    | .ex _ => False
    | .bad => True
theorem rd_2 {r : R2} {g : D → D → Ou D} {σ : St} {H : Hp} {Q : VK} (hr : ∀ (B : Addr → Prop) (H : Hp) (dx dy : D) (x y : V) (Q : VK), Rep X.K B H dx x → Rep X.K B H dy y → match g dx dy with
    | .ok d => isS d = true ∧ (Q (toV d) H → r x y H Q)
    | .ex _ => False
    | .bad => True) (hm : notF m = true) (h : tX X.K E m (f2 g fa fb) σ H Q) : tOp r (tX X.K E .W fa) (tX X.K E .W fb) σ H Q := by
  obtain ⟨c, δ, hK, ab, h⟩ := h
  refine ⟨c, δ, hK, ab, (Res.bind h).imp fun dx _ k x H1 e1 r1 => ?_⟩
  refine ⟨c, δ, hK, ab.grow e1, (Res.bind k).imp fun dy _ k y H2 e2 r2 => ?_⟩
  have r1' : Rep X.K c.B H2 dx x := by
    have z : Rep c.K c.B H1 dx x := r1
    rw [hK] at z; exact z.same e2
  have r2' : Rep X.K c.B H2 dy y := by
    have z : Rep c.K c.B H2 dy y := r2
    rw [hK] at z; exact z
  have q := hr c.B H2 dx dy x y Q r1' r2'
  cases e : g dx dy with
  | ok d =>
    rw [e] at q k
    exact q.2 (k (toV d) H2 (e1.trans e2) (Post.ofS hm q.1))
  | ex z => rw [e] at q; exact q.elim
  | bad => rw [e] at k; exact k.elim
theorem xop {op : Operator} {g : D → D → Ou D} (ho : OpD X (binaryOp op) g) (ha : PE X a (tX X.K E .W fa)) (hb : PE X b (tX X.K E .W fb)) (hm : notF m = true := by rfl) : PE X (.BinOp a op b pos) (tX X.K E m (f2 g fa fb)) := by
  obtain ⟨r, h1, h2⟩ := ho
  exact (pe_op h1 ha hb).imp fun σ H Q q => rd_2 h2 hm q
theorem xcmp {op : CmpOp} {g : D → D → Ou D} (ho : OpD X (compareOp op) g) (ha : PE X a (tX X.K E .W fa)) (hb : PE X b (tX X.K E .W fb)) (hk : behindInMarks op b = false) (hm : notF m = true := by rfl) : PE X (.Compare a [op] [b] pos) (tX X.K E m (f2 g fa fb)) := by
  obtain ⟨r, h1, h2⟩ := ho
  exact (pe_cmpR h1 ha hb hk).imp fun σ H Q q => rd_2 h2 hm q
def gAdd : D → D → Ou D
  | .int i, .int j => .ok (.int (i + j))
  | .str x, .str y => if x.length + y.length ≤ sizeLine then .ok (.str (x ++ y)) else .bad
  | _, _ => .bad
theorem od_add : OpD X (binaryOp .Add) gAdd := by
  refine ⟨_, OpR.or op_add op_add_str, fun B H dx dy x y Q rx ry => ?_⟩
  cases dx <;> cases dy <;> simp only [gAdd]
  · rename_i i j
    simp only [Rep] at rx ry
    subst rx; subst ry
    exact ⟨rfl, fun q => .inl ⟨i, j, rfl, rfl, q⟩⟩
  · rename_i i j
    simp only [Rep] at rx ry
    subst rx; subst ry
    by_cases hl : i.length + j.length ≤ sizeLine
    · rw [if_pos hl]
      exact ⟨rfl, fun q => .inr ⟨i, j, rfl, rfl, hl, q⟩⟩
    · rw [if_neg hl]
      trivial

/-! #### and, or, not; tests -/
def tT (K : PySem.W.Frag) (E : XK) (f : DS → Ou Bool) : TT := fun σ H Q => ∃ c δ, c.K = K ∧ Abs c σ δ H ∧ Res K E c.H₀ (f δ) fun b => ∀ H', Same H H' → Q b H'
def asB : D → Ou Bool
  | .bl b => .ok b
  | _ => .bad
def fAndV (fa fb : Fn) : Fn := fun δ => (fa δ).bind fun x => (asB x).bind fun b => if b = true then fb δ else .ok (.bl false)
def fOrV (fa fb : Fn) : Fn := fun δ => (fa δ).bind fun x => (asB x).bind fun b => if b = true then .ok (.bl true) else fb δ
def fNotV (fa : Fn) : Fn := fun δ => (fa δ).bind fun x => (asB x).bind fun b => .ok (.bl (!b))
theorem Res.asB {K K' : PySem.W.Frag} {H₀ : Hp} {B : Addr → Prop} {H : Hp} {d : D} {v : V} {k : Bool → Prop} (h : Res K E H₀ (asB d) k) (r : Rep K' B H d v) : ∃ b, d = .bl b ∧ v = .bl b ∧ k b := by
  cases d <;> first | exact h.elim | skip
  rename_i b
  simp only [Rep] at r
  exact ⟨b, rfl, r, h⟩
variable {rest : List Expr}
theorem xone {op} (h : PE X a (tX X.K E m fa)) : PE X (.BoolOp op [a] pos) (tX X.K E m fa) := pe_one h
theorem xand (ha : PE X a (tX X.K E .W fa)) (hb : PE X (.BoolOp .And (b :: rest) pos) (tX X.K E m fb)) (hm : notF m = true := by rfl) : PE X (.BoolOp .And (a :: b :: rest) pos) (tX X.K E m (fAndV fa fb)) := (pe_and ha hb).imp fun σ H Q q => by
  obtain ⟨c, δ, hK, ab, q⟩ := q
  refine ⟨c, δ, hK, ab, (Res.bind q).imp fun dx _ k x H1 e1 r1 => ?_⟩
  obtain ⟨z, rfl, rfl, k⟩ := Res.asB (Res.bind k) (show Rep c.K c.B H1 dx x from r1)
  refine ⟨z, rfl, ?_⟩
  cases z with
  | true => exact ⟨c, δ, hK, ab.grow e1, k.imp fun d _ k v H' e p => k v H' (e1.trans e) (by
      cases m with
      | W => exact p
      | S => exact p
      | F => simp [notF] at hm)⟩
  | false => exact k _ H1 e1 (Post.ofS hm rfl)
theorem xnot (ha : PE X a (tX X.K E .W fa)) (hm : notF m = true := by rfl) : PE X (.UnaryOp .Not a pos) (tX X.K E m (fNotV fa)) := (pe_not ha).imp fun σ H Q q => by
  obtain ⟨c, δ, hK, ab, q⟩ := q
  refine ⟨c, δ, hK, ab, (Res.bind q).imp fun dx _ k x H1 e1 r1 => ?_⟩
  obtain ⟨z, rfl, rfl, k⟩ := Res.asB (Res.bind k) (show Rep c.K c.B H1 dx x from r1)
  exact ⟨z, rfl, k _ H1 e1 (Post.ofS hm rfl)⟩
def truD : D → Ou Bool
  | .non => .ok false
  | .bl b => .ok b
  | .int i => .ok (i != 0)
  | .str y => if y.length ≤ sizeLine then .ok ((y.length : Int) != 0) else .bad
  | .tup ds => .ok (!ds.isEmpty)
  | .lst ds => .ok (!ds.isEmpty)
  | .frl ds => .ok (!ds.isEmpty)
  | .dic _ _ => .bad
  | .obj _ => .bad
  | .dip _ _ => .bad
  | .exc _ _ _ => .bad
def fTru (fa : Fn) : DS → Ou Bool := fun δ => (fa δ).bind truD
def fAsB (fa : Fn) : DS → Ou Bool := fun δ => (fa δ).bind asB
theorem empty_of {K : PySem.W.Frag} {B : Addr → Prop} {H : Hp} {ds : List D} {xs : List V} (r : Reps K B H ds xs) : (!ds.isEmpty) = !xs.isEmpty := by
  have h := r.length
  cases ds <;> cases xs <;> simp at h ⊢
theorem rd_tru {K : PySem.W.Frag} {H₀ : Hp} {B : Addr → Prop} {H : Hp} {d : D} {v : V} {k : Bool → Prop} (h : Res K E H₀ (truD d) k) (r : Rep K B H d v) : ∃ b, TruV K v H b ∧ k b := by
  cases d <;> simp only [Rep] at r
  · subst r; exact ⟨_, rfl, h⟩
  · subst r; exact ⟨_, rfl, h⟩
  · subst r; exact ⟨_, rfl, h⟩
  · subst r
    rename_i y
    simp only [truD] at h
    by_cases hl : y.length ≤ sizeLine
    · rw [if_pos hl] at h; exact ⟨_, ⟨hl, rfl⟩, h⟩
    · rw [if_neg hl] at h; exact h.elim
  · obtain ⟨a, xs, rfl, h1, h2⟩ := r
    exact ⟨_, .inr (.inl ⟨xs, h1, rfl⟩), by rw [← empty_of h2]; exact h⟩
  · obtain ⟨a, xs, rfl, hb, h1, h2⟩ := r
    exact ⟨_, .inl ⟨xs, .of h1, rfl⟩, by rw [← empty_of h2]; exact h⟩
  · obtain ⟨a, xs, rfl, h1, h2⟩ := r
    exact ⟨_, .inl ⟨xs, h1.sq, rfl⟩, by rw [← empty_of h2]; exact h⟩
  · exact h.elim
  · exact h.elim
  · exact h.elim
  · exact h.elim
theorem xt (ha : PE X a (tX X.K E .W fa)) (he : ∀ whole, isTrue a X.env whole = (do let v ← whole; standAt a.pos; holding [v] (truthy v)) := by intro _; rfl) : PT X a (tT X.K E (fTru fa)) := (pt_truth ha he).imp fun σ H Q q => by
  obtain ⟨c, δ, hK, ab, q⟩ := q
  refine ⟨c, δ, hK, ab, (Res.bind q).imp fun dx _ k x H1 e1 r1 => ?_⟩
  obtain ⟨z, h1, h2⟩ := rd_tru k (show Rep X.K c.B H1 dx x by rw [← hK]; exact r1)
  exact ⟨z, h1, h2 H1 e1⟩
theorem xt_cmp {op : CmpOp} {g : D → D → Ou D} (ho : OpD X (compareOp op) g) (ha : PE X a (tX X.K E .W fa)) (hb : PE X b (tX X.K E .W fb)) (hk : behindInMarks op b = false) : PT X (.Compare a [op] [b] pos) (tT X.K E (fAsB (f2 g fa fb))) := by
  obtain ⟨r, h1, h2⟩ := ho
  refine (pt_cmpR h1 ha hb hk).imp fun σ H Q q => ?_
  refine rd_2 (m := .W) (E := E) (fa := fa) (fb := fb) h2 rfl ?_
  obtain ⟨c, δ, hK, ab, q⟩ := q
  refine ⟨c, δ, hK, ab, (Res.bind q).imp fun d _ k v H' e p => ?_⟩
  obtain ⟨z, rfl, rfl, k⟩ := Res.asB k (show Rep c.K c.B H' d v from p)
  exact ⟨z, rfl, k H' e⟩
variable {ga gb : DS → Ou Bool}
def fAndT (ga gb : DS → Ou Bool) : DS → Ou Bool := fun δ => (ga δ).bind fun b => if b = true then gb δ else .ok false
def fOrT (ga gb : DS → Ou Bool) : DS → Ou Bool := fun δ => (ga δ).bind fun b => if b = true then .ok true else gb δ
def fNotT (ga : DS → Ou Bool) : DS → Ou Bool := fun δ => (ga δ).bind fun b => .ok (!b)
theorem xw_or1 (ha : PT X a (tT X.K E ga)) : PW X (.BoolOp .Or [a] pos) (tT X.K E ga) := pw_or1 ha
theorem xw_or (ha : PT X a (tT X.K E ga)) (hb : PW X (.BoolOp .Or (b :: rest) pos) (tT X.K E gb)) : PW X (.BoolOp .Or (a :: b :: rest) pos) (tT X.K E (fOrT ga gb)) := (pw_or ha hb).imp fun σ H Q q => by
  obtain ⟨c, δ, hK, ab, q⟩ := q
  refine ⟨c, δ, hK, ab, (Res.bind q).imp fun z _ k H1 e1 => ?_⟩
  cases z with
  | false => exact ⟨c, δ, hK, ab.grow e1, k.imp fun d _ k H' e => k H' (e1.trans e)⟩
  | true => exact k H1 e1
theorem xt_not (ha : PT X a (tT X.K E ga)) : PT X (.UnaryOp .Not a pos) (tT X.K E (fNotT ga)) := (pt_not ha).imp fun σ H Q q => by
  obtain ⟨c, δ, hK, ab, q⟩ := q
  exact ⟨c, δ, hK, ab, (Res.bind q).imp fun z _ k H1 e1 => k H1 e1⟩
def fIfE (gc : DS → Ou Bool) (fa fb : Fn) : Fn := fun δ => (gc δ).bind fun b => if b = true then fa δ else fb δ
theorem Post.early {c : Cn} {σ : St} {δ : DS} {H H1 H' : Hp} {d : D} {v : V} (e : Same H H1) (p : Post c σ δ H1 m d v H') : Post c σ δ H m d v H' := by
  cases m with
  | W => exact p
  | S => exact p
  | F =>
    obtain ⟨p, xs, rfl, h1, h2, h3⟩ := p
    exact ⟨p, xs, rfl, e.free h1, h2, h3⟩
/-! #### lists of arguments, tuples, lists -/
def BOf (c : Cn) (σ : St) (δ : DS) : Md → Addr → Prop
  | .W => c.B
  | _ => Av c σ δ
def fArgs : List Fn → DS → Ou (List D)
  | [], _ => .ok []
  | f :: fs, δ => (f δ).bind fun d => (fArgs fs δ).bind fun ds => .ok (d :: ds)
def tXA (K : PySem.W.Frag) (E : XK) (m : Md) (fs : List Fn) : TA := fun σ H Q => ∃ c δ, c.K = K ∧ Abs c σ δ H ∧ Res K E c.H₀ (fArgs fs δ) fun ds => ∀ vs H', Same H H' → Reps c.K (BOf c σ δ m) H' ds vs → Q vs H'
variable {es : List Expr} {fs : List Fn} {e : Expr} {fe : Fn}
theorem xa_nil : PA X [] (tXA X.K E m []) := pa_nil.imp fun σ H Q q => by
  obtain ⟨c, δ, hK, ab, q⟩ := q
  exact q [] H (Same.refl H) (by simp [Reps])
theorem Post.bOf {c : Cn} {σ : St} {δ : DS} {H H' : Hp} {d : D} {v : V} (hm : notF m = true) (p : Post c σ δ H m d v H') : Rep c.K (BOf c σ δ m) H' d v := by
  cases m with
  | W => exact p
  | S => exact p
  | F => simp [notF] at hm
theorem xa_cons (ha : PE X e (tX X.K E m fe)) (hr : PA X es (tXA X.K E m fs)) (hs : starEach (e :: es) X.env = (false, eval e X.env) :: starEach es X.env := by rfl) (hm : notF m = true := by rfl) : PA X (e :: es) (tXA X.K E m (fe :: fs)) := (pa_cons ha hr hs).imp fun σ H Q q => by
  obtain ⟨c, δ, hK, ab, q⟩ := q
  refine ⟨c, δ, hK, ab, (Res.bind q).imp fun d _ k v H1 e1 r1 => ?_⟩
  refine ⟨c, δ, hK, ab.grow e1, (Res.bind k).imp fun ds _ k vs H2 e2 r2 => ?_⟩
  refine k (v :: vs) H2 (e1.trans e2) ?_
  simp only [Reps]
  exact ⟨v, vs, rfl, (Post.bOf hm r1).same e2, r2⟩
theorem fArgs_len : ∀ {fs : List Fn} {δ : DS} {ds : List D}, fArgs fs δ = .ok ds → ds.length = fs.length
  | [], δ, ds, h => by simp only [fArgs] at h; cases h; rfl
  | f :: fs, δ, ds, h => by
    simp only [fArgs] at h
    cases e : f δ with
    | ok d =>
      rw [e] at h
      cases e2 : fArgs fs δ with
      | ok r => rw [e2] at h; simp only [bind_ok] at h; cases h; simp [fArgs_len e2]
      | ex z => rw [e2] at h; simp at h
      | bad => rw [e2] at h; simp at h
    | ex z => rw [e] at h; simp at h
    | bad => rw [e] at h; simp at h
def fTup (fs : List Fn) : Fn := fun δ => (fArgs fs δ).bind fun ds => .ok (.tup ds)
def fLst (fs : List Fn) : Fn := fun δ => (fArgs fs δ).bind fun ds => .ok (.lst ds)
theorem same_new {H : Hp} {p : Addr} (h : H p = none) (o : HO) : Same H (upd H p o) := fun b u q => by rw [upd_ne (ne_of_none q h)]; exact q
theorem xtup {x1} (h : PA X es (tXA X.K E m fs)) (hl : fs.length ≤ sizeLine := by decide) (hm : notF m = true := by rfl) : PE X (.Tuple es x1 pos) (tX X.K E m (fTup fs)) := (pe_tup h).imp fun σ H Q q => by
  obtain ⟨c, δ, hK, ab, q⟩ := q
  refine ⟨c, δ, hK, ab, (Res.bind q).imp fun ds hds k vs H1 e1 r1 => ⟨by rw [r1.length, fArgs_len hds]; exact hl, fun p hp => ?_⟩⟩
  refine k (.ref p) _ (e1.trans (same_new hp _)) ?_
  have r2 : Rep c.K (BOf c σ δ m) (upd H1 p (.tup vs)) (.tup ds) (.ref p) := by
    simp only [Rep]
    exact ⟨p, vs, rfl, .inl (.inl upd_same), r1.same (same_new hp _)⟩
  cases m with
  | W => exact r2
  | S => exact r2
  | F => simp [notF] at hm
theorem Reps.off {K : PySem.W.Frag} {B : Addr → Prop} {H : Hp} {ds : List D} {vs : List V} {p : Addr} (r : Reps K B H ds vs) (hp : H p = none) : Reps K (fun a => B a ∧ a ≠ p) H ds vs :=
  Reps.mono (fun a o h z => ⟨h, fun e => by subst e; rw [hp] at z; cases z⟩) (.of_same (Same.refl H)) ds vs r
theorem xlst (h : PA X es (tXA X.K E .S fs)) (hl : fs.length ≤ sizeLine := by decide) : PE X (.List es pos) (tX X.K E .F (fLst fs)) := (pe_lst h).imp fun σ H Q q => by
  obtain ⟨c, δ, hK, ab, q⟩ := q
  refine ⟨c, δ, hK, ab, (Res.bind q).imp fun ds hds k vs H1 e1 r1 => ⟨by rw [r1.length, fArgs_len hds]; exact hl, fun p hp => ?_⟩⟩
  exact k (.ref p) _ (e1.trans (same_new hp _)) ⟨p, _, rfl, e1.free hp, upd_same, vs, rfl, (Reps.off r1 hp).same (same_new hp _)⟩

/-! #### items -/
def gIx : D → D → Ou D
  | .tup ds, .int i => match atI ds i with
    | some d => .ok d
    | none => .bad
  | .lst ds, .int i => match atI ds i with
    | some d => .ok d
    | none => .bad
  | .frl ds, .int i => match atI ds i with
    | some d => .ok d
    | none => .bad
  | .str z, .int i => if z.length ≤ sizeLine then (match atI z.cps.toList i with
    | some c => .ok (.str ⟨#[c]⟩)
    | none => .bad) else .bad
  | _, _ => .bad
theorem Reps.at {K : PySem.W.Frag} {B : Addr → Prop} {H : Hp} {ds : List D} {vs : List V} {i : Int} {d : D} (r : Reps K B H ds vs) (h : atI ds i = some d) : ∃ v, atI vs i = some v ∧ Rep K B H d v := by
  unfold atI at h ⊢
  rw [r.length]
  cases e : ixN ds.length i with
  | none => rw [e] at h; cases h
  | some j =>
    rw [e] at h
    exact r.get j d h
theorem rd_ix {K : PySem.W.Frag} {H₀ : Hp} {B : Addr → Prop} {H : Hp} {dx dy : D} {x y : V} {Q : VK} (rx : Rep K B H dx x) (ry : Rep K B H dy y) (h : Res K E H₀ (gIx dx dy) fun d => ∀ v, Rep K B H d v → Q v H) : rIx K x y H Q := by
  cases dy <;> first | (cases dx <;> exact h.elim) | skip
  rename_i i
  simp only [Rep] at ry
  subst ry
  cases dx <;> first | exact h.elim | skip
  · rename_i z
    simp only [Rep] at rx
    subst rx
    simp only [gIx] at h
    by_cases hl : z.length ≤ sizeLine
    · rw [if_pos hl] at h
      cases e : atI z.cps.toList i with
      | none => rw [e] at h; exact h.elim
      | some ch => rw [e] at h; exact .inr (.inr ⟨z, i, ch, rfl, rfl, hl, e, h _ (by simp [Rep])⟩)
    · rw [if_neg hl] at h; exact h.elim
  · rename_i ds
    simp only [Rep] at rx
    obtain ⟨a, xs, rfl, h1, h2⟩ := rx
    simp only [gIx] at h
    cases e : atI ds i with
    | none => simp only [e] at h; exact h.elim
    | some d =>
      simp only [e] at h
      obtain ⟨v, e2, r2⟩ := h2.at e
      exact .inr (.inl ⟨a, xs, i, v, rfl, rfl, h1, e2, h v r2⟩)
  · rename_i ds
    simp only [Rep] at rx
    obtain ⟨a, xs, rfl, hb, h1, h2⟩ := rx
    simp only [gIx] at h
    cases e : atI ds i with
    | none => simp only [e] at h; exact h.elim
    | some d =>
      simp only [e] at h
      obtain ⟨v, e2, r2⟩ := h2.at e
      exact .inl ⟨a, xs, i, v, rfl, rfl, .of h1, e2, h v r2⟩
  · rename_i ds
    simp only [Rep] at rx
    obtain ⟨a, xs, rfl, h1, h2⟩ := rx
    simp only [gIx] at h
    cases e : atI ds i with
    | none => simp only [e] at h; exact h.elim
    | some d =>
      simp only [e] at h
      obtain ⟨v, e2, r2⟩ := h2.at e
      exact .inl ⟨a, xs, i, v, rfl, rfl, h1.sq, e2, h v r2⟩
theorem xix (ha : PE X a (tX X.K E m fa)) (hb : PE X b (tX X.K E .W fb)) (hs : PlainIx b := by exact fun _ _ => rfl) (hm : notF m = true := by rfl) : PE X (.Subscript a b pos) (tX X.K E m (f2 gIx fa fb)) := (pe_ix ix_seq ha hb hs).imp fun σ H Q q => by
  obtain ⟨c, δ, hK, ab, q⟩ := q
  refine ⟨c, δ, hK, ab, (Res.bind q).imp fun dx _ k x H1 e1 r1 => ?_⟩
  refine ⟨c, δ, hK, ab.grow e1, (Res.bind k).imp fun dy hy k y H2 e2 r2 => ?_⟩
  have z1 : Rep X.K (BOf c σ δ m) H2 dx x := by rw [← hK]; exact (Post.bOf hm r1).same e2
  by_cases hd : ∃ i, dy = .int i
  · obtain ⟨i, rfl⟩ := hd
    have z2 : Rep X.K (BOf c σ δ m) H2 (.int i) y := by
      have z : Rep c.K c.B H2 (.int i) y := r2
      simp only [Rep] at z ⊢; exact z
    refine rd_ix z1 z2 (k.imp fun d _ k v r => k v H2 (e1.trans e2) ?_)
    rw [← hK] at r
    cases m with
    | W => exact r
    | S => exact r
    | F => simp [notF] at hm
  · exfalso
    have : gIx dx dy = .bad := by
      cases dy <;> first | (cases dx <;> rfl) | exact absurd ⟨_, rfl⟩ hd
    rw [this] at k
    exact k
/-- an item of a list of one's own -/
def fIxO (i : Nat) (fb : Fn) : Fn := fun δ => match δ[i]? with
  | some (.own (.lst ds)) => (fb δ).bind fun y => gIx (.lst ds) y
  | _ => .bad
/-! ### statements -/
inductive Fl where
  | nx (δ : DS) | rt (d : D) | bk (δ : DS) | ct (δ : DS)
abbrev Sm := DS → Ou Fl
/-- how a def hands back: new: a new list, the asker's own; pin: the slot of what was handed in to be changed -/
structure Rm where
  new : Bool
  pin : Option Nat
instance : Coe Bool Rm := ⟨fun b => ⟨b, none⟩⟩
/-- what a def hands back: fr: a new list, the asker's own -/
def RtP (K : PySem.W.Frag) (B : Addr → Prop) (H₀ : Hp) (fr : Bool) (d : D) (v : V) (H' : Hp) : Prop :=
  match fr with
  | true => ∃ p xs, v = .ref p ∧ H₀ p = none ∧ H' p = some xs ∧ RepO K (fun a => B a ∧ a ≠ p) H' d xs
  | false => Rep K B H' d v
/-- .. and what was handed in, as it is now -/
def RtM (c : Cn) (fr : Rm) (d : D) (v : V) (H' : Hp) : Prop :=
  match c.P with
  | none => RtP c.K c.B c.H₀ fr.new d v H'
  | some (_, p) => ∃ dv dO o, d = .tup [dv, dO] ∧ Rep c.K (fun a => c.B a ∧ a ≠ p) H' dv v ∧ H' p = some o ∧ RepO c.K (fun a => c.B a ∧ a ≠ p) H' dO o
def EndP (c : Cn) (fr : Rm) (D : Ends) : Fl → Prop
  | .nx δ' => ∀ σ' H', Abs c σ' δ' H' → D.nx σ' H'
  | .bk δ' => ∀ σ' H', Abs c σ' δ' H' → D.bk σ' H'
  | .ct δ' => ∀ σ' H', Abs c σ' δ' H' → D.ct σ' H'
  | .rt d => ∀ v H', Same c.H₀ H' → RtM c fr d v H' → D.rt v H'
/-- .. seen by a statement: which slot was handed in to be changed -/
structure AbsF (rm : Rm) (c : Cn) (σ : St) (δ : DS) (H : Hp) : Prop extends Abs c σ δ H where
  pi : c.P.map (·.1) = rm.pin
instance {fr : Rm} {c : Cn} {σ : St} {δ : DS} {H : Hp} : CoeOut (AbsF fr c σ δ H) (Abs c σ δ H) := ⟨AbsF.toAbs⟩
def tS (K : PySem.W.Frag) (E : XK) (fr : Rm) (F : Sm) : TS := fun D σ H => ∃ c δ, c.K = K ∧ AbsF fr c σ δ H ∧ Res K E c.H₀ (F δ) (EndP c fr D)
theorem AbsF.none {fr : Rm} {c : Cn} {σ : St} {δ : DS} {H : Hp} (a : AbsF fr c σ δ H) (h : fr.pin = Option.none) : c.P = Option.none := by
  have := a.pi
  rw [h] at this
  cases e : c.P with
  | none => rfl
  | some x => rw [e] at this; cases this
theorem AbsF.ne {fr : Rm} {c : Cn} {σ : St} {δ : DS} {H : Hp} (a : AbsF fr c σ δ H) {i : Nat} (h : fr.pin ≠ some i) (q : Addr) : c.P ≠ some (i, q) := fun z => h (by rw [← a.pi, z]; rfl)
theorem RtM.of {c : Cn} {fr : Rm} {d : D} {v : V} {H' : Hp} (h : c.P = Option.none) (r : RtP c.K c.B c.H₀ fr.new d v H') : RtM c fr d v H' := by
  unfold RtM; rw [h]; exact r
variable {fr : Rm} {F G : Sm} {st : Stmt} {sts : List Stmt}
def sNext : Sm := fun δ => .ok (.nx δ)
def sSeq (F G : Sm) : Sm := fun δ => (F δ).bind fun r => match r with
  | .nx δ' => G δ'
  | r => .ok r
def sIf (gc : DS → Ou Bool) (F G : Sm) : Sm := fun δ => (gc δ).bind fun b => if b = true then F δ else G δ
def sBreak : Sm := fun δ => .ok (.bk δ)
def sCont : Sm := fun δ => .ok (.ct δ)
def sRet (f : Fn) : Sm := fun δ => (f δ).bind fun d => .ok (.rt d)
def sDrop (f : Fn) : Sm := fun δ => (f δ).bind fun _ => .ok (.nx δ)
theorem xs_nil : PSs X [] (tS X.K E fr sNext) := pss_nil.imp fun D σ H q => by
  obtain ⟨c, δ, hK, ab, q⟩ := q
  exact q σ H ab
theorem xs_cons (h1 : PS X st (tS X.K E fr F)) (h2 : PSs X sts (tS X.K E fr G)) : PSs X (st :: sts) (tS X.K E fr (sSeq F G)) := (pss_cons h1 h2).imp fun D σ H q => by
  obtain ⟨c, δ, hK, ab, q⟩ := q
  refine ⟨c, δ, hK, ab, (Res.bind q).imp fun r _ k => ?_⟩
  cases r with
  | nx δ' => exact fun σ' H' ab' => ⟨c, δ', hK, ⟨ab', ab.pi⟩, k⟩
  | rt d => exact k
  | bk δ' => exact k
  | ct δ' => exact k
theorem xs_if {t : Expr} {sa sb : List Stmt} (hc : PT X t (tT X.K E ga)) (ha : PSs X sa (tS X.K E fr F)) (hb : PSs X sb (tS X.K E fr G)) : PS X (.If t sa sb pos) (tS X.K E fr (sIf ga F G)) := (ps_if hc ha hb).imp fun D σ H q => by
  obtain ⟨c, δ, hK, ab, q⟩ := q
  refine ⟨c, δ, hK, ab, (Res.bind q).imp fun z _ k H1 e1 => ?_⟩
  cases z with
  | true => exact ⟨c, δ, hK, ⟨ab.grow e1, ab.pi⟩, k⟩
  | false => exact ⟨c, δ, hK, ⟨ab.grow e1, ab.pi⟩, k⟩
theorem xs_ret (h : PE X e (tX X.K E .W fe)) : PS X (.Return (some e) pos) (tS X.K E false (sRet fe)) := (ps_ret h).imp fun D σ H q => by
  obtain ⟨c, δ, hK, ab, q⟩ := q
  exact ⟨c, δ, hK, ab, (Res.bind q).imp fun d _ k v H1 e1 r1 => k v H1 (ab.same.trans e1) (.of (ab.none rfl) r1)⟩
def sRetO (i : Nat) : Sm := fun δ => match δ[i]? with
  | some (.own ds) => .ok (.rt ds)
  | _ => .bad
/-! #### names bound -/
theorem get_set {α : Type} {l : List α} {i j : Nat} {x y : α} (h : (l.set i x)[j]? = some y) : (j = i ∧ y = x ∧ i < l.length) ∨ (j ≠ i ∧ l[j]? = some y) := by
  rw [List.getElem?_set] at h
  by_cases e : i = j
  · rw [if_pos e] at h
    by_cases hl : i < l.length
    · rw [if_pos hl] at h
      exact .inl ⟨e.symm, (Option.some.inj h).symm, hl⟩
    · rw [if_neg hl] at h; cases h
  · rw [if_neg e] at h
    exact .inr ⟨fun z => e z.symm, h⟩
theorem set_ne {α : Type} {l : List α} {i j : Nat} {x : α} (h : j ≠ i) : (l.set i x)[j]? = l[j]? := by
  rw [List.getElem?_set, if_neg fun z => h z.symm]
theorem set_eq {α : Type} {l : List α} {i : Nat} {x : α} (h : i < l.length) : (l.set i x)[i]? = some x := by
  rw [List.getElem?_set, if_pos rfl, if_pos h]
theorem own_set_val {σ : St} {δ : DS} {i : Nat} {v : V} {d : D} {q : Addr} (o : Own (σ.set i (some v)) (δ.set i (.val d)) q) : Own σ δ q := by
  obtain ⟨j, ds, h1, h2⟩ := o
  rcases get_set h1 with ⟨_, z, _⟩ | ⟨ne, h1⟩
  · cases z
  · rw [set_ne ne] at h2
    exact ⟨j, ds, h1, h2⟩
theorem Abs.set_val {c : Cn} {σ : St} {δ : DS} {H H' : Hp} {i : Nat} {d : D} {v : V} (a : Abs c σ δ H) (e : Same H H') (r : Rep c.K (Av c σ δ) H' d v) : Abs c (σ.set i (some v)) (δ.set i (.val d)) H' := by
  have av : ∀ q, Av c σ δ q → Av c (σ.set i (some v)) (δ.set i (.val d)) q := fun q h => ⟨h.1, fun o => h.2 (own_set_val o)⟩
  refine ⟨a.same.trans e, fun b h => a.fr b (e.free h), by rw [List.length_set, List.length_set]; exact a.len, fun j d' h => ?_, fun j ds h => ?_, fun d' v' h => ?_, fun j k dj dk p h1 h2 h3 h4 => ?_, fun j p hP d' h => ?_⟩
  · rcases get_set h with ⟨rfl, z, hl⟩ | ⟨ne, h⟩
    · cases z
      exact ⟨v, set_eq (by rw [← a.len]; exact hl), r.weak av⟩
    · obtain ⟨u, h1, h2⟩ := a.val j d' h
      exact ⟨u, by rw [set_ne ne]; exact h1, (h2.same e).weak av⟩
  · rcases get_set h with ⟨rfl, z, hl⟩ | ⟨ne, h⟩
    · cases z
    · obtain ⟨p, xs, h1, h2, h3, h4⟩ := a.own j ds h
      exact ⟨p, xs, by rw [set_ne ne]; exact h1, e _ _ h2, h3, (h4.same e).weak av⟩
  · exact ((a.gho d' v' h).same e).weak av
  · rcases get_set h1 with ⟨_, z, _⟩ | ⟨n1, h1⟩
    · cases z
    rcases get_set h2 with ⟨_, z, _⟩ | ⟨n2, h2⟩
    · cases z
    rw [set_ne n1] at h3
    rw [set_ne n2] at h4
    exact a.inj j k dj dk p h1 h2 h3 h4
  · rcases get_set h with ⟨_, z, _⟩ | ⟨ne, h⟩
    · cases z
    · rw [set_ne ne]; exact a.pin j p hP d' h
theorem own_set_own {σ : St} {δ : DS} {i : Nat} {p : Addr} {ds : D} {q : Addr} (o : Own (σ.set i (some (.ref p))) (δ.set i (.own ds)) q) : Own σ δ q ∨ q = p := by
  obtain ⟨j, es, h1, h2⟩ := o
  rcases get_set h1 with ⟨rfl, z, _⟩ | ⟨ne, h1⟩
  · rcases get_set h2 with ⟨_, z2, _⟩ | ⟨n2, _⟩
    · cases z2; exact .inr rfl
    · exact absurd rfl n2
  · rw [set_ne ne] at h2
    exact .inl ⟨j, es, h1, h2⟩
theorem Abs.set_own {c : Cn} {σ : St} {δ : DS} {H H' : Hp} {i : Nat} {ds : D} {p : Addr} {xs : HO} (a : Abs c σ δ H) (e : Same H H') (hp : H p = none) (h' : H' p = some xs) (r : RepO c.K (fun q => Av c σ δ q ∧ q ≠ p) H' ds xs) (hj : ∀ q, c.P ≠ some (i, q)) :
    Abs c (σ.set i (some (.ref p))) (δ.set i (.own ds)) H' := by
  have av : ∀ q, Av c σ δ q ∧ q ≠ p → Av c (σ.set i (some (.ref p))) (δ.set i (.own ds)) q := fun q h => ⟨h.1.1, fun o => (own_set_own o).elim h.1.2 h.2⟩
  have avH : ∀ (q : Addr) (o : HO), Av c σ δ q → H q = some o → Av c (σ.set i (some (.ref p))) (δ.set i (.own ds)) q := fun q o h z => av q ⟨h, ne_of_none z hp⟩
  have up : ∀ d v, Rep c.K (Av c σ δ) H d v → Rep c.K (Av c (σ.set i (some (.ref p))) (δ.set i (.own ds))) H' d v := fun d v h => Rep.mono avH (.of_same e) d v h
  have ups : ∀ d v, RepO c.K (Av c σ δ) H d v → RepO c.K (Av c (σ.set i (some (.ref p))) (δ.set i (.own ds))) H' d v := fun d v h => RepO.mono avH (.of_same e) h
  have no : ∀ (j : Nat) dj, δ[j]? = some (Sl.own dj) → σ[j]? = some (some (.ref p)) → False := fun j dj h1 h2 => by
    obtain ⟨p', ys, h3, h4, _⟩ := a.own j dj h1
    rw [h2] at h3; cases h3
    rw [hp] at h4; cases h4
  refine ⟨a.same.trans e, fun b h => a.fr b (e.free h), by rw [List.length_set, List.length_set]; exact a.len, fun j d' h => ?_, fun j es h => ?_, fun d' v' h => up _ _ (a.gho d' v' h), fun j k dj dk q h1 h2 h3 h4 => ?_, fun j q hP d' h => ?_⟩
  · rcases get_set h with ⟨rfl, z, hl⟩ | ⟨ne, h⟩
    · cases z
    · obtain ⟨u, h1, h2⟩ := a.val j d' h
      exact ⟨u, by rw [set_ne ne]; exact h1, up _ _ h2⟩
  · rcases get_set h with ⟨rfl, z, hl⟩ | ⟨ne, h⟩
    · cases z
      exact ⟨p, xs, set_eq (by rw [← a.len]; exact hl), h', ⟨a.same.free hp, a.fr p hp⟩, r.weak av⟩
    · obtain ⟨q, ys, h1, h2, h3, h4⟩ := a.own j es h
      exact ⟨q, ys, by rw [set_ne ne]; exact h1, e _ _ h2, h3, ups _ _ h4⟩
  · rcases get_set h1 with ⟨e1, _, _⟩ | ⟨n1, h1⟩
    · rcases get_set h2 with ⟨e2, _, _⟩ | ⟨n2, h2⟩
      · rw [e1, e2]
      · subst e1
        rcases get_set h3 with ⟨_, z, _⟩ | ⟨n3, _⟩
        · cases z
          rw [set_ne n2] at h4
          exact (no k dk (by assumption) h4).elim
        · exact absurd rfl n3
    · rw [set_ne n1] at h3
      rcases get_set h2 with ⟨e2, _, _⟩ | ⟨n2, h2⟩
      · subst e2
        rcases get_set h4 with ⟨_, z, _⟩ | ⟨n3, _⟩
        · cases z
          exact (no j dj (by assumption) h3).elim
        · exact absurd rfl n3
      · rw [set_ne n2] at h4
        exact a.inj j k dj dk q h1 h2 h3 h4
  · rcases get_set h with ⟨rfl, _, _⟩ | ⟨ne, h⟩
    · exact absurd hP (hj q)
    · rw [set_ne ne]; exact a.pin j q hP d' h
/-- a list of one's own is changed -/
theorem Abs.mut {c : Cn} {σ : St} {δ : DS} {H : Hp} {i : Nat} {ds ds' : D} {p : Addr} {xs' : HO} (a : Abs c σ δ H) (h : δ[i]? = some (Sl.own ds)) (hs : σ[i]? = some (some (V.ref p))) (r : RepO c.K (Av c σ δ) H ds' xs') :
    Abs c σ (δ.set i (.own ds')) (upd H p xs') := by
  have hi : i < δ.length := (List.getElem?_eq_some_iff.mp h).1
  have ow : Own σ δ p := ⟨i, ds, h, hs⟩
  have oi : ∀ {q}, Own σ (δ.set i (.own ds')) q → Own σ δ q := fun {q} o => by
    obtain ⟨j, es, h1, h2⟩ := o
    rcases get_set h1 with ⟨rfl, _, _⟩ | ⟨_, h1⟩
    · exact ⟨j, ds, h, h2⟩
    · exact ⟨j, es, h1, h2⟩
  have av : ∀ q, Av c σ δ q → Av c σ (δ.set i (.own ds')) q := fun q z => ⟨z.1, fun o => z.2 (oi o)⟩
  have hne : ∀ q, Av c σ δ q → q ≠ p := fun q z e => by subst e; exact z.2 ow
  obtain ⟨p', ys, g1, g2, g3, g4⟩ := a.own i ds h
  rw [hs] at g1; cases g1
  have st : Stay c.K (Av c σ δ) H (upd H p xs') := ⟨fun q ys z => by
      rcases z with (z | ⟨o, z⟩) | z
      · exact .inl (.inl (by rw [upd_ne (ne_of z g2 (g4.noT _))]; exact z))
      · exact .inl (.inr ⟨o, by rw [upd_ne (ne_of z g2 (g4.noF _ _))]; exact z⟩)
      · exact .inr z, fun q ys z => by
      rcases z with ⟨o, z⟩ | z
      · exact .inl ⟨o, by rw [upd_ne (ne_of z g2 (g4.noF _ _))]; exact z⟩
      · exact .inr z, fun q o z w => by rw [upd_ne (hne q z)]; exact w⟩
  have up : ∀ d v, Rep c.K (Av c σ δ) H d v → Rep c.K (Av c σ (δ.set i (.own ds'))) (upd H p xs') d v := fun d v z => Rep.mono (fun q _ w _ => av q w) st d v z
  have ups : ∀ d v, RepO c.K (Av c σ δ) H d v → RepO c.K (Av c σ (δ.set i (.own ds'))) (upd H p xs') d v := fun d v z => RepO.mono (fun q _ w _ => av q w) st z
  refine ⟨fun b o z => ?_, fun b z => a.fr b (by
      by_cases hb : b = p
      · subst hb; rw [upd_same] at z; cases z
      · rw [upd_ne hb] at z; exact z), by rw [List.length_set]; exact a.len, fun j d' z => ?_, fun j es z => ?_, fun d' v' z => up _ _ (a.gho d' v' z), fun j k dj dk q h1 h2 h3 h4 => ?_, fun j q hP d' z => ?_⟩
  · rw [upd_ne (ne_of_none z g3.1)]; exact a.same b o z
  · rcases get_set z with ⟨_, w, _⟩ | ⟨ne, z⟩
    · cases w
    · obtain ⟨u, z1, z2⟩ := a.val j d' z
      exact ⟨u, z1, up _ _ z2⟩
  · rcases get_set z with ⟨rfl, w, _⟩ | ⟨ne, z⟩
    · cases w
      exact ⟨p, xs', hs, upd_same, g3, ups _ _ r⟩
    · obtain ⟨q, zs, z1, z2, z3, z4⟩ := a.own j es z
      refine ⟨q, zs, z1, ?_, z3, ups _ _ z4⟩
      rw [upd_ne fun w => ne (a.inj j i es ds p z h (by rw [← w]; exact z1) hs)]
      exact z2
  · have go : ∀ {j : Nat} {dj : D}, (δ.set i (.own ds'))[j]? = some (Sl.own dj) → ∃ dj', δ[j]? = some (Sl.own dj') := fun {j dj} z => by
      rcases get_set z with ⟨rfl, _, _⟩ | ⟨_, z⟩
      · exact ⟨ds, h⟩
      · exact ⟨_, z⟩
    obtain ⟨dj', h1⟩ := go h1
    obtain ⟨dk', h2⟩ := go h2
    exact a.inj j k dj' dk' q h1 h2 h3 h4
  · rcases get_set z with ⟨rfl, _, _⟩ | ⟨_, z⟩
    · exact a.pin j q hP ds h
    · exact a.pin j q hP d' z
/-- a list of one's own is changed no more -/
def thaw (i : Nat) (δ : DS) : DS := match δ[i]? with
  | some (.own ds) => δ.set i (.val ds)
  | _ => δ
theorem Abs.thaw {c : Cn} {σ : St} {δ : DS} {H : Hp} (i : Nat) (a : Abs c σ δ H) : Abs c σ (thaw i δ) H := by
  unfold DL.thaw
  cases e : δ[i]? with
  | none => exact a
  | some s =>
    cases s with
    | un => exact a
    | val d => exact a
    | own ds =>
      obtain ⟨p, xs, h1, h2, h3, h4⟩ := a.own i ds e
      have oi : ∀ {q}, Own σ (δ.set i (.val ds)) q → Own σ δ q ∧ q ≠ p := fun {q} o => by
        obtain ⟨j, es, z1, z2⟩ := o
        rcases get_set z1 with ⟨_, w, _⟩ | ⟨ne, z1⟩
        · cases w
        · exact ⟨⟨j, es, z1, z2⟩, fun w => ne (a.inj j i es ds p z1 e (by rw [← w]; exact z2) h1)⟩
      have av : ∀ q, Av c σ δ q → Av c σ (δ.set i (.val ds)) q := fun q z => ⟨z.1, fun o => z.2 (oi o).1⟩
      refine ⟨a.same, a.fr, by rw [List.length_set]; exact a.len, fun j d' z => ?_, fun j es z => ?_, fun d' v' z => (a.gho d' v' z).weak av, fun j k dj dk q z1 z2 z3 z4 => ?_, fun j q hP d' z => ?_⟩
      · rcases get_set z with ⟨rfl, w, _⟩ | ⟨ne, z⟩
        · cases w
          refine ⟨.ref p, h1, ?_⟩
          exact (h4.weak av).rep h2 ⟨h3.2, fun o => (oi o).2 rfl⟩
        · obtain ⟨u, z1, z2⟩ := a.val j d' z
          exact ⟨u, z1, z2.weak av⟩
      · rcases get_set z with ⟨_, w, _⟩ | ⟨ne, z⟩
        · cases w
        · obtain ⟨q, zs, z1, z2, z3, z4⟩ := a.own j es z
          exact ⟨q, zs, z1, z2, z3, z4.weak av⟩
      · rcases get_set z1 with ⟨_, w, _⟩ | ⟨_, z1⟩
        · cases w
        rcases get_set z2 with ⟨_, w, _⟩ | ⟨_, z2⟩
        · cases w
        exact a.inj j k dj dk q z1 z2 z3 z4
      · rcases get_set z with ⟨_, w, _⟩ | ⟨_, z⟩
        · cases w
        · exact a.pin j q hP d' z
theorem xs_thaw (i : Nat) (h : PS X st (tS X.K E fr F)) : PS X st (tS X.K E fr fun δ => F (thaw i δ)) := h.imp fun D σ H q => by
  obtain ⟨c, δ, hK, ab, q⟩ := q
  exact ⟨c, _, hK, ⟨ab.toAbs.thaw i, ab.pi⟩, q⟩
def sSet (i : Nat) (f : Fn) : Sm := fun δ => (f δ).bind fun d => .ok (.nx (δ.set i (.val d)))
def sOwn (i : Nat) (f : Fn) : Sm := fun δ => (f δ).bind fun d => .ok (.nx (δ.set i (.own d)))
theorem xs_set (i : Nat) {x : Str} {pos' : Pos} (hN : X.N.Nodup) (he : PE X e (tX X.K E .S fe)) (hi : X.N[i]? = some x := by rfl) (hx : Loc X.env.scope x := by first | exact Or.inl rfl | exact Or.inr rfl) (hs : swapsWith e (some (.Name x pos')) pos.line X.env = pure false := by rfl)
    (hf : X.fn x = true ∨ X.env.scope.names.lookup x = some .local := by first | exact .inl rfl | exact .inr rfl) : PS X (.Assign [.Name x pos'] e pos) (tS X.K E fr (sSet i fe)) := (ps_set hN hi hx he hs hf).imp fun D σ H q => by
  obtain ⟨c, δ, hK, ab, q⟩ := q
  exact ⟨c, δ, hK, ab, (Res.bind q).imp fun d _ k v H1 e1 r1 => k _ H1 (ab.set_val e1 r1)⟩
theorem xs_own (i : Nat) {x : Str} {pos' : Pos} (hN : X.N.Nodup) (he : PE X e (tX X.K E .F fe)) (hi : X.N[i]? = some x := by rfl) (hx : Loc X.env.scope x := by first | exact Or.inl rfl | exact Or.inr rfl) (hs : swapsWith e (some (.Name x pos')) pos.line X.env = pure false := by rfl)
    (hf : X.fn x = true ∨ X.env.scope.names.lookup x = some .local := by first | exact .inl rfl | exact .inr rfl) (hpi : fr.pin ≠ some i := by decide) : PS X (.Assign [.Name x pos'] e pos) (tS X.K E fr (sOwn i fe)) := (ps_set hN hi hx he hs hf).imp fun D σ H q => by
  obtain ⟨c, δ, hK, ab, q⟩ := q
  refine ⟨c, δ, hK, ab, (Res.bind q).imp fun d _ k v H1 e1 r1 => ?_⟩
  obtain ⟨p, xs, rfl, h1, h2, h3⟩ := r1
  exact k _ H1 (ab.set_own e1 h1 h2 h3 (ab.ne hpi))

/-! #### loops -/
def tG (K : PySem.W.Frag) (E : XK) (g : D → DS → Ou DS) : TG := fun v σ H Q => ∃ c δ d, c.K = K ∧ Abs c σ δ H ∧ Rep c.K (Av c σ δ) H d v ∧ Res K E c.H₀ (g d δ) fun δ' => ∀ σ' H', Same H H' → Abs c σ' δ' H' → Q σ' H'
def gNm (i : Nat) : D → DS → Ou DS := fun d δ => .ok (δ.set i (.val d))
theorem xg_name (i : Nat) {x : Str} (hN : X.N.Nodup) (hi : X.N[i]? = some x := by rfl) (hx : Loc X.env.scope x := by first | exact Or.inl rfl | exact Or.inr rfl) (hf : X.fn x = true ∨ X.env.scope.names.lookup x = some .local := by first | exact .inl rfl | exact .inr rfl) : PG X (.Name x pos) (tG X.K E (gNm i)) := (pg_name hN hi hx hf).imp fun v σ H Q q => by
  obtain ⟨c, δ, d, hK, ab, r, q⟩ := q
  exact q _ H (Same.refl H) (ab.set_val (Same.refl H) r)
def forL (g : D → DS → Ou DS) (body : Sm) : List D → DS → Ou Fl
  | [], δ => .ok (.nx δ)
  | x :: xs, δ => (g x δ).bind fun δ1 => (body δ1).bind fun r => match r with
    | .nx δ2 => forL g body xs δ2
    | .ct δ2 => forL g body xs δ2
    | .bk δ2 => .ok (.nx δ2)
    | .rt d => .ok (.rt d)
def sFor (fl : Fn) (g : D → DS → Ou DS) (body : Sm) : Sm := fun δ => (fl δ).bind fun d => match d with
  | .lst ds => forL g body ds δ
  | .frl ds => forL g body ds δ
  | _ => .bad
def sForT (fl : Fn) (g : D → DS → Ou DS) (body : Sm) : Sm := fun δ => (fl δ).bind fun d => match d with
  | .tup ds => forL g body ds δ
  | _ => .bad
theorem Abs.drop {c : Cn} {σ : St} {δ : DS} {H : Hp} {g : List (D × V)} (a : Abs { c with G := g } σ δ H) (hg : ∀ z ∈ c.G, z ∈ g) : Abs c σ δ H :=
  ⟨a.same, a.fr, a.len, a.val, a.own, fun d v h => a.gho d v (hg _ h), a.inj, a.pin⟩
/-- one turn -/
theorem for_turn {c : Cn} {g : D → DS → Ou DS} {body : Sm} {tg : TG} {tb : TS} {D : Ends} {K : PySem.W.Frag} {gh : List (DL.D × V)} (htg : ∀ v σ H Q, tG K E g v σ H Q → tg v σ H Q) (htb : ∀ D σ H, tS K E fr body D σ H → tb D σ H) (hK : c.K = K) (hg : ∀ z ∈ c.G, z ∈ gh)
    {d : DL.D} {ds : List DL.D} {v : V} {σ : St} {δ : DS} {H : Hp} (ab : Abs { c with G := gh } σ δ H) (r : Rep c.K (Av c σ δ) H d v) (h : Res K E c.H₀ (forL g body (d :: ds) δ) (EndP c fr D)) (hp : c.P.map (·.1) = fr.pin := by assumption) :
    tg v σ H fun σ2 H2 => tb { D with nx := fun σ' H' => ∃ δ', Abs { c with G := gh } σ' δ' H' ∧ Res K E c.H₀ (forL g body ds δ') (EndP c fr D), ct := fun σ' H' => ∃ δ', Abs { c with G := gh } σ' δ' H' ∧ Res K E c.H₀ (forL g body ds δ') (EndP c fr D), bk := D.nx } σ2 H2 := by
  refine htg _ _ _ _ ⟨{ c with G := gh }, δ, d, hK, ab, r, (Res.bind h).imp fun δ1 _ k σ2 H2 _ ab2 => htb _ _ _ ⟨{ c with G := gh }, δ1, hK, ⟨ab2, hp⟩, (Res.bind k).imp fun r _ k => ?_⟩⟩
  cases r with
  | nx δ2 => exact fun σ' H' ab' => ⟨δ2, ab', k⟩
  | ct δ2 => exact fun σ' H' ab' => ⟨δ2, ab', k⟩
  | bk δ2 => exact fun σ' H' ab' => k σ' H' (ab'.drop hg)
  | rt z => exact k

theorem for_goes {c : Cn} {g : D → DS → Ou DS} {body : Sm} {J : It} {tg : TG} {tb : TS} {D : Ends} {K : PySem.W.Frag} {gh : List (DL.D × V)} (htg : ∀ v σ H Q, tG K E g v σ H Q → tg v σ H Q) (htb : ∀ D σ H, tS K E fr body D σ H → tb D σ H) (hK : c.K = K) (hg : ∀ z ∈ c.G, z ∈ gh)
    {ds : List DL.D} {σ : St} {δ : DS} {H : Hp} (ab : Abs { c with G := gh } σ δ H) (h : Res K E c.H₀ (forL g body ds δ) (EndP c fr D))
    (go : ∀ (i : Nat) σ δ H d, Abs { c with G := gh } σ δ H → ds[i]? = some d → J.go i H ∧ ∀ x H', J.yld i H x H' → H' = H ∧ Rep c.K (Av c σ δ) H d x)
    (stop : ∀ σ δ H, Abs { c with G := gh } σ δ H → J.stop ds.length H) (hp : c.P.map (·.1) = fr.pin := by assumption) :
    ∃ W : Nat → Nat → St → Hp → Prop, (∃ m, W 0 m σ H) ∧ ∀ i m σ H, W i m σ H →
      (J.stop i H ∧ D.nx σ H) ∨ (J.go i H ∧ ∃ N : St → Hp → Prop, (∀ σ' H', N σ' H' → ∃ m', m' < m ∧ W (i + 1) m' σ' H') ∧ ∀ x H', J.yld i H x H' → tg x σ H' fun σ2 H2 => tb { D with nx := N, ct := N, bk := D.nx } σ2 H2) := by
  refine ⟨fun i m σ H => m = ds.length - i ∧ i ≤ ds.length ∧ ∃ δ, Abs { c with G := gh } σ δ H ∧ Res K E c.H₀ (forL g body (ds.drop i) δ) (EndP c fr D), ⟨ds.length, by simp, Nat.zero_le _, δ, ab, by simpa using h⟩, ?_⟩
  rintro i m σ H ⟨rfl, hi, δ, ab, h⟩
  by_cases hlt : i < ds.length
  · have hd : ds[i]? = some ds[i] := by simp [hlt]
    obtain ⟨g1, g2⟩ := go i σ δ H _ ab hd
    rw [List.drop_eq_getElem_cons hlt] at h
    refine .inr ⟨g1, _, fun σ' H' p' => ⟨ds.length - (i + 1), by lia, rfl, hlt, p'⟩, fun x H' y => ?_⟩
    obtain ⟨rfl, r⟩ := g2 x H' y
    exact for_turn htg htb hK hg ab r h
  · have e : i = ds.length := by lia
    subst e
    rw [List.drop_length] at h
    exact .inl ⟨stop σ δ H ab, h σ H (ab.drop hg)⟩
theorem rd_for {c : Cn} {g : D → DS → Ou DS} {D : Ends} {K : PySem.W.Frag} {σ : St} {δ : DS} {H : Hp} {a : Addr} {d : DL.D} {ds : List DL.D} (hK : c.K = K) (ab : Abs c σ δ H) (r : Rep c.K (Av c σ δ) H d (.ref a))
    (all : ∀ B H, Rep c.K B H d (.ref a) → ∃ xs, SqL K H a xs ∧ Reps c.K B H ds xs) (h : Res K E c.H₀ (forL g F ds δ) (EndP c fr D)) (hp : c.P.map (·.1) = fr.pin := by assumption) :
    ∃ W : Nat → Nat → St → Hp → Prop, (∃ m, W 0 m σ H) ∧ ∀ i m σ H, W i m σ H →
      ((Itl K a).stop i H ∧ D.nx σ H) ∨ ((Itl K a).go i H ∧ ∃ N : St → Hp → Prop, (∀ σ' H', N σ' H' → ∃ m', m' < m ∧ W (i + 1) m' σ' H') ∧ ∀ x H', (Itl K a).yld i H x H' → tG K E g x σ H' fun σ2 H2 => tS K E fr F { D with nx := N, ct := N, bk := D.nx } σ2 H2) := by
  have ab' : Abs { c with G := (d, .ref a) :: c.G } σ δ H := by
    refine ⟨ab.same, ab.fr, ab.len, ab.val, ab.own, fun d' v' hm => ?_, ab.inj, ab.pin⟩
    rcases List.mem_cons.mp hm with e | hm
    · cases e; exact r
    · exact ab.gho d' v' hm
  refine for_goes (gh := (d, .ref a) :: c.G) (fun _ _ _ _ z => z) (fun _ _ _ z => z) hK (fun _ z => List.mem_cons_of_mem _ z) ab' h (fun i σ δ H d z hd => ?_) fun σ δ H z => ?_
  · obtain ⟨ys, w1, w2⟩ := all _ _ (z.gho _ _ List.mem_cons_self)
    obtain ⟨u, w3, w4⟩ := w2.get i d hd
    refine ⟨⟨ys, u, w1, w3⟩, fun x H' y => ⟨y.1, ?_⟩⟩
    have w5 := y.2 ys w1
    rw [w3] at w5; cases w5
    exact w4
  · obtain ⟨ys, w1, w2⟩ := all _ _ (z.gho _ _ List.mem_cons_self)
    exact ⟨ys, w1, Nat.le_of_eq w2.length⟩
theorem xs_for {tg iter : Expr} {body : List Stmt} {fl : Fn} {g : D → DS → Ou DS} (hp : PassesOwn (model X.prog X.w) X.A X.env X.xe) (hc : X.calm = true) (hi : PE X iter (tX X.K E .S fl)) (hg : PG X tg (tG X.K E g)) (hb : PSs X body (tS X.K E fr F))
    (hs : ∀ x, foldedSetIterable iter X.env x = pure x := by intro _; rfl) : PS X (.For tg iter body [] pos) (tS X.K E fr (sFor fl g F)) := (ps_for hp hc (pi_list hi) hg hb hs).imp fun D σ H q => by
  obtain ⟨c, δ, hK, ab, q⟩ := q
  have hp := ab.pi
  refine ⟨c, δ, hK, ab, (Res.bind q).imp fun d hd0 k v H1 e1 r1 => ?_⟩
  have r1' : Rep c.K (Av c σ δ) H1 d v := r1
  cases d <;> first | exact k.elim | skip
  · rename_i ds
    have r2 := r1'
    simp only [Rep] at r2
    obtain ⟨a, xs, rfl, hb, h1, h2⟩ := r2
    refine ⟨a, rfl, ⟨xs, .of h1⟩, rd_for hK (ab.grow e1) r1' (fun B H z => ?_) k⟩
    simp only [Rep] at z
    obtain ⟨b, ys, e, _, w1, w2⟩ := z
    cases e
    exact ⟨ys, .of w1, w2⟩
  · rename_i ds
    have r2 := r1'
    simp only [Rep] at r2
    obtain ⟨a, xs, rfl, h1, h2⟩ := r2
    refine ⟨a, rfl, ⟨xs, by rw [← hK]; exact h1.sq⟩, rd_for hK (ab.grow e1) r1' (fun B H z => ?_) k⟩
    simp only [Rep] at z
    obtain ⟨b, ys, e, w1, w2⟩ := z
    cases e
    exact ⟨ys, by rw [← hK]; exact w1.sq, w2⟩
/-- the ints of a range -/
def rng (lo : Int) (n : Nat) : List D := (List.range n).map fun (k : Nat) => D.int (lo + (k : Int))
theorem rng_get {lo : Int} {n i : Nat} {d : D} (h : (rng lo n)[i]? = some d) : i < n ∧ d = .int (lo + (i : Int)) := by
  unfold rng at h
  rw [List.getElem?_map] at h
  cases e : (List.range n)[i]? with
  | none => rw [e] at h; cases h
  | some k =>
    rw [e] at h
    have e2 := List.getElem?_eq_some_iff.mp e
    obtain ⟨hl, e3⟩ := e2
    simp at e3 hl
    subst e3
    exact ⟨hl, (Option.some.inj h).symm⟩
theorem rng_len (lo : Int) (n : Nat) : (rng lo n).length = n := by simp [rng]
/-- small enough for a range -/
def rOk (i : Int) : Bool := decide (-(2 ^ 62) ≤ i ∧ i < 2 ^ 62)
def sRng (fs : List Fn) (g : D → DS → Ou DS) (body : Sm) : Sm := fun δ => (fArgs fs δ).bind fun ds => match ds with
  | [.int j] => if rOk j = true then forL g body (rng 0 j.toNat) δ else .bad
  | [.int i, .int j] => if rOk i = true ∧ rOk j = true then forL g body (rng i (j - i).toNat) δ else .bad
  | _ => .bad
theorem rd_rng1 {c : Cn} {g : D → DS → Ou DS} {D : Ends} {K : PySem.W.Frag} {σ : St} {δ : DS} {H : Hp} {lo : Int} {n : Nat} (hK : c.K = K) (ab : Abs c σ δ H) (h : Res K E c.H₀ (forL g F (rng lo n) δ) (EndP c fr D)) (hp : c.P.map (·.1) = fr.pin := by assumption) :
    ∃ W : Nat → Nat → St → Hp → Prop, (∃ m, W 0 m σ H) ∧ ∀ i m σ H, W i m σ H →
      ((Itr lo n).stop i H ∧ D.nx σ H) ∨ ((Itr lo n).go i H ∧ ∃ N : St → Hp → Prop, (∀ σ' H', N σ' H' → ∃ m', m' < m ∧ W (i + 1) m' σ' H') ∧ ∀ x H', (Itr lo n).yld i H x H' → tG K E g x σ H' fun σ2 H2 => tS K E fr F { D with nx := N, ct := N, bk := D.nx } σ2 H2) := by
  refine for_goes (gh := c.G) (fun _ _ _ _ z => z) (fun _ _ _ z => z) hK (fun _ z => z) ab h (fun i σ δ H d z hd => ?_) fun σ δ H z => ?_
  · obtain ⟨h1, rfl⟩ := rng_get hd
    exact ⟨h1, fun x H' y => ⟨y.1, by rw [y.2]; simp [Rep]⟩⟩
  · show n ≤ _
    rw [rng_len]; exact Nat.le_refl _
def whileF (gc : DS → Ou Bool) (body : Sm) : Nat → Sm
  | 0, _ => .bad
  | n + 1, δ => (gc δ).bind fun b => if b = true then (body δ).bind fun r => match r with
      | .nx δ2 => whileF gc body n δ2
      | .ct δ2 => whileF gc body n δ2
      | .bk δ2 => .ok (.nx δ2)
      | .rt d => .ok (.rt d)
    else .ok (.nx δ)
end
end DL
namespace DL
open PySem PySem.Spec PyProof.Rows L2
section
variable {X : Cx} {E : XK} {m : Md} {a b e : Expr} {fa fb fe : Fn} {pos : Pos} {es : List Expr} {fs : List Fn} {fr : Rm} {F G : Sm} {ga gb : DS → Ou Bool} {st : Stmt}

/-! ### ints -/
def gI (C : Int → Int → Bool) (g : Int → Int → D) : D → D → Ou D
  | .int i, .int j => if C i j = true then .ok (g i j) else .bad
  | _, _ => .bad
def gI0 (g : Int → Int → D) : D → D → Ou D
  | .int i, .int j => .ok (g i j)
  | _, _ => .bad
theorem od_I {f : Value → Value → Sem Value} {C' : Int → Int → Prop} {C : Int → Int → Bool} {g : Int → Int → D} (h : OpR X f (rI C' fun i j => toV (g i j))) (hC : ∀ i j, C i j = true → C' i j) (hs : ∀ i j, isS (g i j) = true) : OpD X f (gI C g) := by
  refine ⟨_, h, fun B H dx dy x y Q rx ry => ?_⟩
  cases dx <;> cases dy <;> simp only [gI]
  rename_i i j
  simp only [Rep] at rx ry
  subst rx; subst ry
  by_cases hc : C i j = true
  · rw [if_pos hc]
    exact ⟨hs i j, fun q => ⟨i, j, rfl, rfl, hC i j hc, q⟩⟩
  · rw [if_neg hc]; trivial
theorem od_I0 {f : Value → Value → Sem Value} {g : Int → Int → D} (h : OpR X f (rI0 fun i j => toV (g i j))) (hs : ∀ i j, isS (g i j) = true) : OpD X f (gI0 g) := by
  refine ⟨_, h, fun B H dx dy x y Q rx ry => ?_⟩
  cases dx <;> cases dy <;> simp only [gI0]
  rename_i i j
  simp only [Rep] at rx ry
  subst rx; subst ry
  exact ⟨hs i j, fun q => ⟨i, j, rfl, rfl, q⟩⟩
def gSub := gI0 fun i j => .int (i - j)
def cMul (i j : Int) : Bool := decide ((-(2 ^ 64) < i ∧ i < 2 ^ 64) ∨ (-(2 ^ 64) < j ∧ j < 2 ^ 64))
def gMul := gI cMul fun i j => .int (i * j)
def cDiv (_ j : Int) : Bool := decide (0 < j ∧ j < 2 ^ 64)
def gDiv := gI cDiv fun i j => .int (i / j)
def cMod (_ j : Int) : Bool := decide (0 < j)
def gMod := gI cMod fun i j => .int (i % j)
def cPow (i j : Int) : Bool := decide (0 ≤ j ∧ j ≤ 1000000 ∧ i.natAbs < 2 ^ 64)
def gPow := gI cPow fun i j => .int (i ^ j.toNat)
def gShl := gI cPow fun i j => .int (i * 2 ^ j.toNat)
def cShr (_ j : Int) : Bool := decide (0 ≤ j)
def gShr := gI cShr fun i j => .int (i / 2 ^ j.toNat)
def gAnd := gI0 fun i j => .int (Builtin.bitAnd i j)
def gOr := gI0 fun i j => .int (Builtin.bitOr i j)
def gXor := gI0 fun i j => .int (Builtin.bitXor i j)
theorem od_sub : OpD X (binaryOp .Sub) gSub := od_I0 op_sub fun _ _ => rfl
theorem od_mul : OpD X (binaryOp .Mult) gMul := od_I op_mul (fun i j h => by have z := of_decide_eq_true h; exact z) fun _ _ => rfl
theorem log2_64 {j : Int} (h0 : 0 < j) (h : j < 2 ^ 64) : j.natAbs.log2 < 9000 := by
  have h1 : j.natAbs ≠ 0 := by lia
  have h2 : j.natAbs < 2 ^ 64 := by lia
  have := (Nat.log2_lt h1).mpr h2
  lia
theorem op_fdiv64 : OpR X (binaryOp .FloorDiv) (rI (fun _ j => 0 < j ∧ j < 2 ^ 64) fun i j => .int (i / j)) := opI fun i j _ _ _ _ _ hc q => by
  have h1 : (0 : Int) < j := hc.1
  exact floordiv_int (by lia) (by rw [Int.fdiv_eq_ediv_of_nonneg i (by lia)]; exact q) (.inl (PyProof.noPylong_of_log2 (log2_64 hc.1 hc.2)))
theorem od_div : OpD X (binaryOp .FloorDiv) gDiv := od_I op_fdiv64 (fun _ _ h => of_decide_eq_true h) fun _ _ => rfl
theorem od_mod : OpD X (binaryOp .Mod) gMod := od_I op_mod (fun _ _ h => of_decide_eq_true h) fun _ _ => rfl
theorem od_pow : OpD X (binaryOp .Pow) gPow := od_I op_pow (fun i j h => by have z := of_decide_eq_true h; exact z) fun _ _ => rfl
def gLt := gI0 fun i j => .bl (decide (i < j))
def gLe := gI0 fun i j => .bl (decide (i ≤ j))
def gGt := gI0 fun i j => .bl (decide (j < i))
def gGe := gI0 fun i j => .bl (decide (j ≤ i))
/-- a unary minus -/
def f1 (g : D → Ou D) (fa : Fn) : Fn := fun δ => (fa δ).bind g
def gNeg : D → Ou D
  | .int i => .ok (.int (-i))
  | _ => .bad
/-- is None, is not None -/
def gIsN : D → Ou D
  | .non => .ok (.bl true)
  | _ => .ok (.bl false)
def gNotN : D → Ou D
  | .non => .ok (.bl false)
  | _ => .ok (.bl true)
/-- a op b op c -/
def fChn (g g' : D → D → Ou D) (fa fb fc : Fn) : Fn := fun δ => (fa δ).bind fun x => (fb δ).bind fun y => (g x y).bind fun z => (asB z).bind fun k => if k = true then (fc δ).bind fun w => g' y w else .ok (.bl false)
end
end DL
namespace DL
open PySem PySem.Spec PyProof.Rows L2
/-! ### == of data, however deep -/
def zipO (f : D → D → Option Bool) : List D → List D → Option (List Bool)
  | x :: xs, y :: ys => (f x y).bind fun b => (zipO f xs ys).bind fun bs => some (b :: bs)
  | _, _ => some []
def eqT (f : D → D → Option Bool) (xs ys : List D) : Option Bool := (zipO f xs ys).bind fun bs => some (bs.all id && xs.length == ys.length)
def eqL (f : D → D → Option Bool) (xs ys : List D) : Option Bool := if xs.length = ys.length then (zipO f xs ys).bind fun bs => some (bs.all id) else some false
/-- the rank of a value: plain, a tuple, a list, none of these -/
def rk : D → Nat
  | .tup _ => 1
  | .lst _ => 2
  | .frl _ => 2
  | .dic _ _ => 3
  | .obj _ => 3
  | .dip _ _ => 3
  | .exc _ _ _ => 3
  | _ => 0
def its : D → List D
  | .tup xs => xs
  | .lst xs => xs
  | .frl xs => xs
  | _ => []
def eqF (f : D → D → Option Bool) (x y : D) : Option Bool :=
  match rk x, rk y with
  | 0, 0 => some (eqV (toV x) (toV y))
  | 1, 1 => eqT f (its x) (its y)
  | 2, 2 => eqL f (its x) (its y)
  | 3, _ => none
  | _, 3 => none
  | _, _ => some false
def eqD : Nat → D → D → Option Bool
  | 0 => fun _ _ => none
  | n + 1 => eqF (eqD n)
theorem zipO_len {f : D → D → Option Bool} : ∀ {xs ys : List D} {bs : List Bool}, zipO f xs ys = some bs → bs.length = min xs.length ys.length
  | [], ys, bs, h => by
    have : bs = [] := by simpa [zipO] using h.symm
    subst this; simp
  | x :: xs, [], bs, h => by
    have : bs = [] := by simpa [zipO] using h.symm
    subst this; simp
  | x :: xs, y :: ys, bs, h => by
    simp only [zipO] at h
    cases e : f x y with
    | none => rw [e] at h; cases h
    | some b =>
      rw [e] at h
      cases e2 : zipO f xs ys with
      | none => rw [e2] at h; cases h
      | some bs' =>
        rw [e2] at h
        cases h
        have := zipO_len e2
        simp only [List.length_cons, this]
        lia
theorem zipO_get {f : D → D → Option Bool} : ∀ {xs ys : List D} {bs : List Bool}, zipO f xs ys = some bs → ∀ (j : Nat) (x y : D), xs[j]? = some x → ys[j]? = some y → ∃ b, bs[j]? = some b ∧ f x y = some b
  | [], ys, bs, h, j, x, y, hx, hy => by simp at hx
  | x :: xs, [], bs, h, j, _, y, hx, hy => by simp at hy
  | x :: xs, y :: ys, bs, h, j, x', y', hx, hy => by
    simp only [zipO] at h
    cases e : f x y with
    | none => rw [e] at h; cases h
    | some b =>
      rw [e] at h
      cases e2 : zipO f xs ys with
      | none => rw [e2] at h; cases h
      | some bs' =>
        rw [e2] at h
        cases h
        cases j with
        | zero =>
          simp at hx hy
          subst hx; subst hy
          exact ⟨b, rfl, e⟩
        | succ j =>
          obtain ⟨b', h1, h2⟩ := zipO_get e2 j x' y' (by simpa using hx) (by simpa using hy)
          exact ⟨b', by simpa using h1, h2⟩
theorem all_range {bs : List Bool} {n : Nat} (h : bs.length = n) : (List.range n).all (fun j => bs.getD j true) = bs.all id := by
  subst h
  rw [Bool.eq_iff_iff]
  simp only [List.all_eq_true, List.mem_range, id]
  constructor
  · intro h b hb
    obtain ⟨j, hj, rfl⟩ := List.getElem_of_mem hb
    have := h j hj
    simpa [List.getD, hj] using this
  · intro h j hj
    have := h bs[j] (List.getElem_mem hj)
    simpa [List.getD, hj] using this
section
variable {X : Cx} {pins : List (Addr × Obj)} {σ : St} {H : Hp} {s : Shared} {B : Addr → Prop} {A : Around}
/-- what == and != answer there -/
structure Eq3 (A : Around) (s : Shared) (u v : Value) (b : Bool) : Prop where
  rc : SeqAt.RcAt A s u v b
  ne : SeqAt.RcNeAt A s u v (!b)
  eq : SeqAt.EqAt A s u v b
theorem rc_sc {x y : V} {u v : Value} (rx : L2.RelV x u) (ry : L2.RelV y v) (fx : flatV x = true) (fy : flatV y = true) : SeqAt.RcAt A s u v (eqV x y) := by
  cases x with
  | non =>
    cases rx
    cases y with
    | non => cases ry; exact .none_none
    | bl b => cases ry; exact .none_bool b
    | int b => obtain ⟨tb, rfl⟩ := ry; exact .none_int b tb
    | str b => obtain ⟨tb, rfl⟩ := ry; exact .none_str b tb
    | _ => exact absurd (show false = true from fy) Bool.false_ne_true
  | bl a =>
    cases rx
    cases y with
    | non => cases ry; exact .bool_none a
    | bl b => cases ry; exact .bool_bool a b
    | int b => obtain ⟨tb, rfl⟩ := ry; exact .bool_int a b tb
    | str b => obtain ⟨tb, rfl⟩ := ry; exact .bool_str a b tb
    | _ => exact absurd (show false = true from fy) Bool.false_ne_true
  | int a =>
    obtain ⟨ta, rfl⟩ := rx
    cases y with
    | non => cases ry; exact .int_none a ta
    | bl b => cases ry; exact .int_bool a ta b
    | int b => obtain ⟨tb, rfl⟩ := ry; exact .int_int a ta b tb
    | str b => obtain ⟨tb, rfl⟩ := ry; exact .int_str a ta b tb
    | _ => exact absurd (show false = true from fy) Bool.false_ne_true
  | str a =>
    obtain ⟨ta, rfl⟩ := rx
    cases y with
    | non => cases ry; exact .str_none a ta
    | bl b => cases ry; exact .str_bool a ta b
    | int b => obtain ⟨tb, rfl⟩ := ry; exact .str_int a ta b tb
    | str b => obtain ⟨tb, rfl⟩ := ry; exact .str_str a ta b tb
    | _ => exact absurd (show false = true from fy) Bool.false_ne_true
  | _ => exact absurd (show false = true from fx) Bool.false_ne_true
theorem rcn_sc {x y : V} {u v : Value} (rx : L2.RelV x u) (ry : L2.RelV y v) (fx : flatV x = true) (fy : flatV y = true) : SeqAt.RcNeAt A s u v (!eqV x y) := by
  cases x with
  | non =>
    cases rx
    cases y with
    | non => cases ry; exact .none_none
    | bl b => cases ry; exact .none_bool b
    | int b => obtain ⟨tb, rfl⟩ := ry; exact .none_int b tb
    | str b => obtain ⟨tb, rfl⟩ := ry; exact .none_str b tb
    | _ => exact absurd (show false = true from fy) Bool.false_ne_true
  | bl a =>
    cases rx
    cases y with
    | non => cases ry; exact .bool_none a
    | bl b => cases ry; exact .bool_bool a b
    | int b => obtain ⟨tb, rfl⟩ := ry; exact .bool_int a b tb
    | str b => obtain ⟨tb, rfl⟩ := ry; exact .bool_str a b tb
    | _ => exact absurd (show false = true from fy) Bool.false_ne_true
  | int a =>
    obtain ⟨ta, rfl⟩ := rx
    cases y with
    | non => cases ry; exact .int_none a ta
    | bl b => cases ry; exact .int_bool a ta b
    | int b => obtain ⟨tb, rfl⟩ := ry; exact .int_int a ta b tb
    | str b => obtain ⟨tb, rfl⟩ := ry; exact .int_str a ta b tb
    | _ => exact absurd (show false = true from fy) Bool.false_ne_true
  | str a =>
    obtain ⟨ta, rfl⟩ := rx
    cases y with
    | non => cases ry; exact .str_none a ta
    | bl b => cases ry; exact .str_bool a ta b
    | int b => obtain ⟨tb, rfl⟩ := ry; exact .str_int a ta b tb
    | str b => obtain ⟨tb, rfl⟩ := ry; exact .str_str a ta b tb
    | _ => exact absurd (show false = true from fy) Bool.false_ne_true
  | _ => exact absurd (show false = true from fx) Bool.false_ne_true
theorem eq3_sc {x y : V} {u v : Value} (rx : L2.RelV x u) (ry : L2.RelV y v) (fx : flatV x = true) (fy : flatV y = true) : Eq3 A s u v (eqV x y) := ⟨rc_sc rx ry fx fy, rcn_sc rx ry fx fy, eqAt_V rx ry fx fy⟩
theorem eq3_tup_sc {l : Addr} {items : Array Value} {y : V} {v : Value} (hl : s.heap.IsTuple l items) (hu : A.units < cLine) (ry : L2.RelV y v) (fy : flatV y = true) : Eq3 A s (.ref l) v false ∧ Eq3 A s v (.ref l) false := by
  cases y <;> first | exact absurd (show false = true from fy) Bool.false_ne_true | skip
  all_goals simp only [L2.RelV] at ry
  all_goals first | subst ry | (obtain ⟨t', rfl⟩ := ry)
  · exact ⟨⟨.tuple_none hl hu, .tuple_none hl hu, .tuple_none hl hu⟩, .none_tuple hl hu, .none_tuple hl hu, .none_tuple hl hu⟩
  · exact ⟨⟨.tuple_bool _ hl hu, .tuple_bool _ hl hu, .tuple_bool _ hl hu⟩, .bool_tuple _ hl hu, .bool_tuple _ hl hu, .bool_tuple _ hl hu⟩
  · exact ⟨⟨.tuple_int _ _ hl hu, .tuple_int _ _ hl hu, .tuple_int _ _ hl hu⟩, .int_tuple _ _ hl hu, .int_tuple _ _ hl hu, .int_tuple _ _ hl hu⟩
  · exact ⟨⟨.tuple_str _ _ hl hu, .tuple_str _ _ hl hu, .tuple_str _ _ hl hu⟩, .str_tuple _ _ hl hu, .str_tuple _ _ hl hu, .str_tuple _ _ hl hu⟩
theorem eq3_lst_sc {l : Addr} {items : Array Value} {y : V} {v : Value} (hl : s.heap.IsList l items) (hu : A.units < cLine) (ry : L2.RelV y v) (fy : flatV y = true) : Eq3 A s (.ref l) v false ∧ Eq3 A s v (.ref l) false := by
  cases y <;> first | exact absurd (show false = true from fy) Bool.false_ne_true | skip
  all_goals simp only [L2.RelV] at ry
  all_goals first | subst ry | (obtain ⟨t', rfl⟩ := ry)
  · exact ⟨⟨.list_none hl hu, .list_none hl hu, .list_none hl hu⟩, .none_list hl hu, .none_list hl hu, .none_list hl hu⟩
  · exact ⟨⟨.list_bool _ hl hu, .list_bool _ hl hu, .list_bool _ hl hu⟩, .bool_list _ hl hu, .bool_list _ hl hu, .bool_list _ hl hu⟩
  · exact ⟨⟨.list_int _ _ hl hu, .list_int _ _ hl hu, .list_int _ _ hl hu⟩, .int_list _ _ hl hu, .int_list _ _ hl hu, .int_list _ _ hl hu⟩
  · exact ⟨⟨.list_str _ _ hl hu, .list_str _ _ hl hu, .list_str _ _ hl hu⟩, .str_list _ _ hl hu, .str_list _ _ hl hu, .str_list _ _ hl hu⟩
/-- a value by its rank -/
theorem rk0 {K : PySem.W.Frag} {d : D} {x : V} (h : rk d = 0) (r : Rep K B H d x) : x = toV d ∧ flatV x = true := by
  cases d <;> simp [rk] at h <;> simp only [Rep] at r <;> subst r <;> exact ⟨rfl, rfl⟩
theorem rk1 {K : PySem.W.Frag} {d : D} {x : V} (h : rk d = 1) (r : Rep K B H d x) : ∃ a xs, x = .ref a ∧ SqT K H a xs ∧ Reps K B H (its d) xs := by
  cases d <;> simp [rk] at h
  simpa only [Rep, its] using r
theorem rk2 {K : PySem.W.Frag} {d : D} {x : V} (h : rk d = 2) (r : Rep K B H d x) : ∃ a xs, x = .ref a ∧ SqL K H a xs ∧ Reps K B H (its d) xs := by
  cases d <;> simp [rk] at h <;> simp only [Rep] at r
  · obtain ⟨a, xs, e, _, h1, h2⟩ := r; exact ⟨a, xs, e, .of h1, h2⟩
  · obtain ⟨a, xs, e, h1, h2⟩ := r; exact ⟨a, xs, e, h1.sq, h2⟩
theorem rk_le (d : D) : rk d = 0 ∨ rk d = 1 ∨ rk d = 2 ∨ rk d = 3 := by cases d <;> simp [rk]
/-- the items, one by one -/
theorem eq_items {f : D → D → Option Bool} {dxs dys : List D} {xs ys : List V} {us vs : List Value} {bs : List Bool} (hz : zipO f dxs dys = some bs) (rx : Reps X.K B H dxs xs) (ry : Reps X.K B H dys ys) (ru : Vals xs us) (rv : Vals ys vs)
    (ih : ∀ dx dy x y u v b, Rep X.K B H dx x → Rep X.K B H dy y → L2.RelV x u → L2.RelV y v → f dx dy = some b → SeqAt.EqAt A s u v b) :
    ∀ j (h1 : j < us.toArray.size) (h2 : j < vs.toArray.size), SeqAt.EqAt A s us.toArray[j] vs.toArray[j] (bs.getD j true) := by
  intro j h1 h2
  have hl1 := rx.length; have hl2 := ry.length; have hl3 := ru.length; have hl4 := rv.length
  have h1' : j < us.length := by simpa using h1
  have h2' : j < vs.length := by simpa using h2
  have k1 : dxs[j]? = some (dxs[j]'(by lia)) := List.getElem?_eq_getElem (by lia)
  have k2 : dys[j]? = some (dys[j]'(by lia)) := List.getElem?_eq_getElem (by lia)
  obtain ⟨b, e1, e2⟩ := zipO_get hz j _ _ k1 k2
  obtain ⟨x, g1, g2⟩ := rx.get j _ k1
  obtain ⟨y, g3, g4⟩ := ry.get j _ k2
  obtain ⟨u, g5, g6⟩ := ru.get g1
  obtain ⟨v, g7, g8⟩ := rv.get g3
  have eu : us.toArray[j] = u := by
    have := List.getElem?_eq_getElem h1'
    rw [g5] at this
    simpa using (Option.some.inj this).symm
  have ev : vs.toArray[j] = v := by
    have := List.getElem?_eq_getElem h2'
    rw [g7] at this
    simpa using (Option.some.inj this).symm
  have eb : bs.getD j true = b := by simp [List.getD, e1]
  rw [eu, ev, eb]
  exact ih _ _ x y u v b g2 g4 g6 g8 e2
theorem same_true (I : Inv X pins σ H s) : ∀ (n : Nat) (dx dy : D) (x : V) (b : Bool), Rep X.K B H dx x → Rep X.K B H dy x → eqD n dx dy = some b → b = true
  | 0, _, _, _, _, _, _, e => nomatch e
  | n + 1, dx, dy, x, b, rx, ry, e => by
    have go : ∀ (dxs dys : List D) (xs : List V) (bs : List Bool), Reps X.K B H dxs xs → Reps X.K B H dys xs → zipO (eqD n) dxs dys = some bs → bs.all id = true := by
      intro dxs dys xs bs r1 r2 hz
      have hl := zipO_len hz
      have l1 := r1.length; have l2 := r2.length
      rw [List.all_eq_true]
      intro b hb
      obtain ⟨j, hj, rfl⟩ := List.getElem_of_mem hb
      have k1 : dxs[j]? = some (dxs[j]'(by lia)) := List.getElem?_eq_getElem (by lia)
      have k2 : dys[j]? = some (dys[j]'(by lia)) := List.getElem?_eq_getElem (by lia)
      obtain ⟨b', e1, e2⟩ := zipO_get hz j _ _ k1 k2
      obtain ⟨v, g1, g2⟩ := r1.get j _ k1
      obtain ⟨v', g3, g4⟩ := r2.get j _ k2
      rw [g1] at g3; cases g3
      have := same_true I n _ _ _ _ g2 g4 e2
      subst this
      rw [List.getElem?_eq_getElem hj] at e1
      simpa using Option.some.inj e1
    have e' : eqF (eqD n) dx dy = some b := e
    unfold eqF at e'
    rcases rk_le dx with hx | hx | hx | hx <;> rcases rk_le dy with hy | hy | hy | hy <;> rw [hx, hy] at e' <;> simp only at e'
    all_goals try cases e'
    · obtain ⟨h1, h2⟩ := rk0 hx rx
      obtain ⟨h3, _⟩ := rk0 hy ry
      rw [← h1, ← h3]
      cases x <;> simp [eqV, flatV] at h2 ⊢
    all_goals first
      | (obtain ⟨_, h2⟩ := rk0 hx rx
         first | (obtain ⟨a, xs, rfl, _⟩ := rk1 hy ry; simp [flatV] at h2) | (obtain ⟨a, xs, rfl, _⟩ := rk2 hy ry; simp [flatV] at h2))
      | (obtain ⟨_, h2⟩ := rk0 hy ry
         first | (obtain ⟨a, xs, rfl, _⟩ := rk1 hx rx; simp [flatV] at h2) | (obtain ⟨a, xs, rfl, _⟩ := rk2 hx rx; simp [flatV] at h2))
      | skip
    · obtain ⟨a, xs, rfl, h1, h2⟩ := rk1 hx rx
      obtain ⟨a', xs', z, h3, h4⟩ := rk1 hy ry
      cases z
      have := I.tuple_inj h1 h3
      subst this
      unfold eqT at e'
      cases ez : zipO (eqD n) (its dx) (its dy) with
      | none => rw [ez] at e'; cases e'
      | some bs =>
        rw [ez] at e'
        cases e'
        have l1 := h2.length; have l2 := h4.length
        rw [go _ _ _ _ h2 h4 ez]
        simp; lia
    · obtain ⟨a, xs, rfl, h1, h2⟩ := rk1 hx rx
      obtain ⟨a', xs', z, h3, h4⟩ := rk2 hy ry
      cases z
      obtain ⟨_, _, p1, _⟩ := I.tuple h1
      obtain ⟨_, _, p2, _⟩ := I.list h3
      exact absurd rfl (SeqAt.ne_of_list_tuple p2.isList p1)
    · obtain ⟨a, xs, rfl, h1, h2⟩ := rk2 hx rx
      obtain ⟨a', xs', z, h3, h4⟩ := rk1 hy ry
      cases z
      obtain ⟨_, _, p1, _⟩ := I.tuple h3
      obtain ⟨_, _, p2, _⟩ := I.list h1
      exact absurd rfl (SeqAt.ne_of_list_tuple p2.isList p1)
    · obtain ⟨a, xs, rfl, h1, h2⟩ := rk2 hx rx
      obtain ⟨a', xs', z, h3, h4⟩ := rk2 hy ry
      cases z
      have := I.list_inj h1 h3
      subst this
      have l1 := h2.length; have l2 := h4.length
      unfold eqL at e'
      rw [if_pos (by lia)] at e'
      cases ez : zipO (eqD n) (its dx) (its dy) with
      | none => rw [ez] at e'; cases e'
      | some bs =>
        rw [ez] at e'
        cases e'
        exact go _ _ _ _ h2 h4 ez
theorem eq_at (I : Inv X pins σ H s) : ∀ (n : Nat) (A : Around) (dx dy : D) (x y : V) (u v : Value) (b : Bool), A.units + n < cLine → Rep X.K B H dx x → Rep X.K B H dy y → L2.RelV x u → L2.RelV y v → eqD n dx dy = some b → Eq3 A s u v b
  | 0, _, _, _, _, _, _, _, _, _, _, _, _, _, e => nomatch e
  | n + 1, A, dx, dy, x, y, u, v, b, hu, rx, ry, ru, rv, e => by
    have hu0 : A.units < cLine := by lia
    have ih := fun dx dy x y u v b => fun h1 h2 h3 h4 h5 => (eq_at I n A.in1 dx dy x y u v b (by show A.units + 1 + n < cLine; lia) h1 h2 h3 h4 h5).eq
    have e0 := e
    have e' : eqF (eqD n) dx dy = some b := e
    unfold eqF at e'
    rcases rk_le dx with hx | hx | hx | hx <;> rcases rk_le dy with hy | hy | hy | hy <;> rw [hx, hy] at e' <;> simp only at e'
    all_goals try cases e'
    · obtain ⟨h1, h2⟩ := rk0 hx rx
      obtain ⟨h3, h4⟩ := rk0 hy ry
      rw [← h1, ← h3]
      exact eq3_sc ru rv h2 h4
    · obtain ⟨h1, h2⟩ := rk0 hx rx
      obtain ⟨a, xs, rfl, h3, h4⟩ := rk1 hy ry
      obtain rfl : v = Value.ref a := rv
      obtain ⟨_, _, p, _⟩ := I.tuple h3
      exact (eq3_tup_sc p hu0 ru h2).2
    · obtain ⟨h1, h2⟩ := rk0 hx rx
      obtain ⟨a, xs, rfl, h3, h4⟩ := rk2 hy ry
      obtain rfl : v = Value.ref a := rv
      obtain ⟨_, _, p, _⟩ := I.list h3
      exact (eq3_lst_sc p.isList hu0 ru h2).2
    · obtain ⟨h1, h2⟩ := rk0 hy ry
      obtain ⟨a, xs, rfl, h3, h4⟩ := rk1 hx rx
      obtain rfl : u = Value.ref a := ru
      obtain ⟨_, _, p, _⟩ := I.tuple h3
      exact (eq3_tup_sc p hu0 rv h2).1
    · obtain ⟨a, xs, rfl, h1, h2⟩ := rk1 hx rx
      obtain ⟨a', ys, rfl, h3, h4⟩ := rk1 hy ry
      obtain rfl : u = Value.ref a := ru
      obtain rfl : v = Value.ref a' := rv
      obtain ⟨us, r1, p1, _⟩ := I.tuple h1
      obtain ⟨vs, r2, p2, _⟩ := I.tuple h3
      unfold eqT at e'
      cases ez : zipO (eqD n) (its dx) (its dy) with
      | none => rw [ez] at e'; cases e'
      | some bs =>
        rw [ez] at e'
        have eb := Option.some.inj e'
        have hit := eq_items (A := A.in1) (s := s) ez h2 h4 r1 r2 ih
        have hl := zipO_len ez
        have l1 := h2.length; have l2 := h4.length; have l3 := r1.length; have l4 := r2.length
        have el : bs.length = min us.toArray.size vs.toArray.size := by simp; lia
        have es : (us.toArray.size == vs.toArray.size) = ((its dx).length == (its dy).length) := by
          rw [Bool.eq_iff_iff]; simp; lia
        have h5 := SeqAt.RcAt.tuples p1 p2 hu0 hit
        have h6 := SeqAt.RcNeAt.tuples p1 p2 hu0 hit
        rw [all_range el, es, eb] at h5 h6
        refine ⟨h5, h6, ?_⟩
        by_cases ha : a = a'
        · subst ha
          rw [same_true I (n + 1) dx dy (.ref a) b rx ry e0]
          exact .same _
        · exact .of_refs ha h5
    · obtain ⟨a, xs, rfl, h1, h2⟩ := rk1 hx rx
      obtain ⟨a', ys, rfl, h3, h4⟩ := rk2 hy ry
      obtain rfl : u = Value.ref a := ru
      obtain rfl : v = Value.ref a' := rv
      obtain ⟨us, r1, p1, _⟩ := I.tuple h1
      obtain ⟨vs, r2, p2, _⟩ := I.list h3
      exact ⟨.tuple_list p1 p2.isList hu0, .tuple_list p1 p2.isList hu0, .tuple_list p1 p2.isList hu0⟩
    · obtain ⟨h1, h2⟩ := rk0 hy ry
      obtain ⟨a, xs, rfl, h3, h4⟩ := rk2 hx rx
      obtain rfl : u = Value.ref a := ru
      obtain ⟨_, _, p, _⟩ := I.list h3
      exact (eq3_lst_sc p.isList hu0 rv h2).1
    · obtain ⟨a, xs, rfl, h1, h2⟩ := rk2 hx rx
      obtain ⟨a', ys, rfl, h3, h4⟩ := rk1 hy ry
      obtain rfl : u = Value.ref a := ru
      obtain rfl : v = Value.ref a' := rv
      obtain ⟨us, r1, p1, _⟩ := I.list h1
      obtain ⟨vs, r2, p2, _⟩ := I.tuple h3
      exact ⟨.list_tuple p1.isList p2 hu0, .list_tuple p1.isList p2 hu0, .list_tuple p1.isList p2 hu0⟩
    · obtain ⟨a, xs, rfl, h1, h2⟩ := rk2 hx rx
      obtain ⟨a', ys, rfl, h3, h4⟩ := rk2 hy ry
      obtain rfl : u = Value.ref a := ru
      obtain rfl : v = Value.ref a' := rv
      obtain ⟨us, r1, p1, _⟩ := I.list h1
      obtain ⟨vs, r2, p2, _⟩ := I.list h3
      have l1 := h2.length; have l2 := h4.length; have l3 := r1.length; have l4 := r2.length
      have key : SeqAt.RcAt A s (.ref a) (.ref a') b ∧ SeqAt.RcNeAt A s (.ref a) (.ref a') (!b) := by
        unfold eqL at e'
        by_cases hl : (its dx).length = (its dy).length
        · rw [if_pos hl] at e'
          cases ez : zipO (eqD n) (its dx) (its dy) with
          | none => rw [ez] at e'; cases e'
          | some bs =>
            rw [ez] at e'
            have eb := Option.some.inj e'
            have hit := eq_items (A := A.in1) (s := s) ez h2 h4 r1 r2 ih
            have hlz := zipO_len ez
            have el : bs.length = us.toArray.size := by simp; lia
            have esz : us.toArray.size = vs.toArray.size := by simp; lia
            have h5 := SeqAt.RcAt.lists p1.isList p2.isList esz hu0 hit
            have h6 := SeqAt.RcNeAt.lists p1.isList p2.isList esz hu0 hit
            rw [all_range el, eb] at h5 h6
            exact ⟨h5, h6⟩
        · rw [if_neg hl] at e'
          cases e'
          have esz : (us.toArray.size != vs.toArray.size) = true := by simp; lia
          exact ⟨.lists_lengths p1.isList p2.isList esz hu0, .lists_lengths p1.isList p2.isList esz hu0⟩
      refine ⟨key.1, key.2, ?_⟩
      by_cases ha : a = a'
      · subst ha
        rw [same_true I (n + 1) dx dy (.ref a) b rx ry e0]
        exact .same _
      · exact .of_refs ha key.1
end
section
variable {X : Cx}
def gEq (x y : D) : Ou D := match eqD 60 x y with
  | some b => .ok (.bl b)
  | none => .bad
def gNe (x y : D) : Ou D := match eqD 60 x y with
  | some b => .ok (.bl (!b))
  | none => .bad
def rEqD (K : PySem.W.Frag) (neg : Bool) : R2 := fun x y H Q => ∃ (B : Addr → Prop) (dx dy : D) (b : Bool), Rep K B H dx x ∧ Rep K B H dy y ∧ eqD 60 dx dy = some b ∧ Q (.bl (if neg then !b else b)) H
theorem op_eqD (hu : X.A.units + 64 < cLine) : OpR X (compareOp .Eq) (rEqD X.K false) := by
  intro pins s σ H x y v u Q I rx ry h
  obtain ⟨B, dx, dy, b, h1, h2, h3, q⟩ := h
  exact EqBoolInt.of_rc (eq_at I 60 X.A dx dy x y v u b (by lia) h1 h2 rx ry h3).rc ⟨.bl b, H, I, rfl, q⟩
theorem op_neD (hu : X.A.units + 64 < cLine) : OpR X (compareOp .NotEq) (rEqD X.K true) := by
  intro pins s σ H x y v u Q I rx ry h
  obtain ⟨B, dx, dy, b, h1, h2, h3, q⟩ := h
  exact EqBoolInt.of_rcne (eq_at I 60 X.A dx dy x y v u b (by lia) h1 h2 rx ry h3).ne ⟨.bl (!b), H, I, rfl, q⟩
theorem od_eq (hu : X.A.units + 64 < cLine) : OpD X (compareOp .Eq) gEq := by
  refine ⟨_, op_eqD hu, fun B H dx dy x y Q rx ry => ?_⟩
  unfold gEq
  cases e : eqD 60 dx dy with
  | none => trivial
  | some b => exact ⟨rfl, fun q => ⟨B, dx, dy, b, rx, ry, e, q⟩⟩
theorem od_ne (hu : X.A.units + 64 < cLine) : OpD X (compareOp .NotEq) gNe := by
  refine ⟨_, op_neD hu, fun B H dx dy x y Q rx ry => ?_⟩
  unfold gNe
  cases e : eqD 60 dx dy with
  | none => trivial
  | some b => exact ⟨rfl, fun q => ⟨B, dx, dy, b, rx, ry, e, q⟩⟩
end
end DL
namespace DL
open PySem PySem.Spec PyProof.Rows L2
/-- a def as it stands in the text -/
structure Src (K : PySem.W.Frag) (mg : Str → Option Value) (x : Str) (st : Stmt) (ps : List Str) : Prop where
  ex : ∃ f fd, Fun K x x st f fd ∧ Binds K fd ps [] ∧ mg x = some (.ref f)
/-- what a def promises: the mirror's value, all that was is as it was -/
def spD (K : PySem.W.Frag) (fr : Bool) (n : Nat) (mm : List D → Ou D) : Sp := fun vs H Q _ => ∃ (B : Addr → Prop) (ds : List D), ds.length = n ∧ Reps K B H ds vs ∧
  Res K E0 H (mm ds) fun d => ∀ v H', Same H H' → RtP K (fun a => B a ∨ H a = none) H fr d v H' → Q v H'
structure Df (P : Program) (w : World) (K : PySem.W.Frag) (mg : Str → Option Value) (base : Heap) (x : Str) (k : Nat) (ps : List Str) (fr : Bool) (mm : List D → Ou D) : Prop where
  ex : ∃ f fd, FnOk P w K mg base CX0 k f fd ps (spD K fr ps.length mm) ∧ Binds K fd ps [] ∧ PySem.W.keepIn K (.ref f) = true ∧ mg x = some (.ref f)
section
variable {P : Program} {w : World} {K : PySem.W.Frag} {mg : Str → Option Value} {base : Heap}
theorem Df.mono {x : Str} {j k : Nat} {ps : List Str} {fr : Bool} {mm : List D → Ou D} (h : Df P w K mg base x j ps fr mm) (hj : j ≤ k) : Df P w K mg base x k ps fr mm := by
  obtain ⟨f, fd, h1, h2⟩ := h.ex
  exact ⟨f, fd, h1.mono hj, h2⟩
def startD (n : Nat) (ds : List D) : DS := ds.map Sl.val ++ List.replicate (n - ds.length) Sl.un
def runD (fr : Bool) (n : Nat) (F : Sm) (ds : List D) : Ou D := (F (startD n ds)).bind fun r => match r with
  | .rt d => .ok d
  | .nx _ => (match fr with
    | true => .bad
    | false => .ok .non)
  | _ => .bad
theorem start_abs {N : List Str} {B : Addr → Prop} {H : Hp} {ds : List D} {vs : List V} (r : Reps K B H ds vs) (hl : ds.length ≤ N.length) : Abs { K := K, B := fun a => B a ∨ H a = none, H₀ := H, G := [] } (start N vs) (startD N.length ds) H := by
  have hv := r.length
  have no : ∀ (i : Nat) (z : D), (startD N.length ds)[i]? = some (Sl.own z) → False := fun i z h => by
    unfold startD at h
    rw [List.getElem?_append] at h
    split at h
    · rw [List.getElem?_map] at h
      cases e : ds[i]? with
      | none => rw [e] at h; cases h
      | some d => rw [e] at h; cases h
    · rw [List.getElem?_replicate] at h
      split at h <;> cases h
  have nown : ∀ q, ¬ Own (start N vs) (startD N.length ds) q := fun q ⟨i, z, h, _⟩ => no i z h
  refine ⟨Same.refl H, fun a h => .inr h, ?_, fun i d h => ?_, fun i z h => (no i z h).elim, fun d v h => (nomatch h), fun i j di dj p h => (no i di h).elim, fun i p hP => (nomatch hP)⟩
  · unfold startD L2.start
    simp [hv]
  · unfold startD at h
    rw [List.getElem?_append] at h
    split at h
    · rename_i hi
      rw [List.getElem?_map] at h
      cases e : ds[i]? with
      | none => rw [e] at h; cases h
      | some d' =>
        rw [e] at h
        cases h
        obtain ⟨v, h1, h2⟩ := r.get i d e
        refine ⟨v, ?_, h2.weak fun a z => ⟨.inl z, nown a⟩⟩
        unfold L2.start
        rw [List.getElem?_append_left (by rw [List.length_map]; exact (List.getElem?_eq_some_iff.mp h1).1), List.getElem?_map, h1]
        rfl
    · rw [List.getElem?_replicate] at h
      split at h <;> cases h
theorem fn_ofD {N ps : List Str} {st : Stmt} {x : Str} {k : Nat} {fr : Bool} {F : Sm} {f : Addr} {fd : FuncData} (Fn : Fun K x x st f fd) (sc : FnScope N ps (defScope st)) (hn : ps.length ≤ N.length)
    (hbody : ∀ (f : Addr) (cdv : Value) (A : Around) (outer : List Env) (s : Shared) (H : Hp) (E : XK), Room k (A.deeper (envOfC x (defScope st) s.heap.objs.size f cdv)) →
      PSs (cxOf CX0 P w K mg base N x (defScope st) f cdv A outer s H E).nox (defBody st) (tS K E0 fr F)) : FnOk P w K mg base CX0 (k + 1) f fd ps (spD K fr ps.length (runD fr N.length F)) := by
  refine Fn.ok sc (fun vs H Q E h => ?_) (fun cdv A outer s H vs Q E hr h => ⟨_, hbody f cdv A outer s H E hr, ?_⟩)
  · obtain ⟨B, ds, hl, r, _⟩ := h
    rw [r.length]; exact hl
  · obtain ⟨B, ds, hl, r, h⟩ := h
    refine ⟨_, startD N.length ds, rfl, ⟨start_abs r (by rw [hl]; exact hn), rfl⟩, (Res.bind h).imp fun z _ k => ?_⟩
    cases z with
    | rt d => exact k
    | nx δ =>
      cases fr with
      | true => exact k.elim
      | false => exact fun σ' H' ab => k .non H' ab.same (by show Rep _ _ _ _ _; simp [Rep])
    | bk δ => exact k.elim
    | ct δ => exact k.elim
theorem fn_ofM {N ps : List Str} {st : Stmt} {x qual : Str} {k : Nat} {fr : Bool} {F : Sm} {f : Addr} {fd : FuncData} (Fn : Fun K x qual st f fd) (sc : FnScope N ps (defScope st)) (hn : ps.length ≤ N.length)
    (hbody : ∀ (f : Addr) (cdv : Value) (A : Around) (outer : List Env) (s : Shared) (H : Hp) (E : XK), Room k (A.deeper (envOfC qual (defScope st) s.heap.objs.size f cdv)) →
      PSs (cxOf CX0 P w K mg base N qual (defScope st) f cdv A outer s H E).nox (defBody st) (tS K E0 fr F)) : FnOk P w K mg base CX0 (k + 1) f fd ps (spD K fr ps.length (runD fr N.length F)) := by
  refine Fn.ok sc (fun vs H Q E h => ?_) (fun cdv A outer s H vs Q E hr h => ⟨_, hbody f cdv A outer s H E hr, ?_⟩)
  · obtain ⟨B, ds, hl, r, _⟩ := h
    rw [r.length]; exact hl
  · obtain ⟨B, ds, hl, r, h⟩ := h
    refine ⟨_, startD N.length ds, rfl, ⟨start_abs r (by rw [hl]; exact hn), rfl⟩, (Res.bind h).imp fun z _ k => ?_⟩
    cases z with
    | rt d => exact k
    | nx δ =>
      cases fr with
      | true => exact k.elim
      | false => exact fun σ' H' ab => k .non H' ab.same (by show Rep _ _ _ _ _; simp [Rep])
    | bk δ => exact k.elim
    | ct δ => exact k.elim
theorem df_of {N ps : List Str} {st : Stmt} {x : Str} {k : Nat} {fr : Bool} {F : Sm} (S : Src K mg x st ps) (sc : FnScope N ps (defScope st)) (hn : ps.length ≤ N.length)
    (hbody : ∀ (f : Addr) (cdv : Value) (A : Around) (outer : List Env) (s : Shared) (H : Hp) (E : XK), Room k (A.deeper (envOfC x (defScope st) s.heap.objs.size f cdv)) →
      PSs (cxOf CX0 P w K mg base N x (defScope st) f cdv A outer s H E).nox (defBody st) (tS K E0 fr F)) : Df P w K mg base x (k + 1) ps fr (runD fr N.length F) := by
  obtain ⟨f, fd, Fn, b, hm⟩ := S.ex
  exact ⟨f, fd, fn_ofD Fn sc hn hbody, b, Fn.kp, hm⟩
end
section
variable {X : Cx} {m : Md} {e : Expr} {es : List Expr} {fs : List Fn} {p pos : Pos} {x : Str} {ps : List Str} {k : Nat} {mm : List D → Ou D}
def fCall (mm : List D → Ou D) (fs : List Fn) : Fn := fun δ => (fArgs fs δ).bind mm
theorem wish_mono {α : Type} {K : PySem.W.Frag} {E : XK} {H H' : Hp} {o : Ou α} {q : α → Prop} (h : Res K E H o q) (e : Same H H') : Res K E H' o q := by
  cases o with
  | ok a => exact h
  | ex z =>
    obtain ⟨C, hc, h⟩ := h
    exact ⟨C, hc, fun H2 e2 => h H2 (e.trans e2)⟩
  | bad => exact h
theorem xcall (h : Df X.prog X.w X.K X.mg X.base x k ps false mm) (hr : Room k X.A) (ha : PA X (e :: es) (tXA X.K E0 m fs)) (hl : fs.length = ps.length := by rfl) (hg : Gl X x := by rfl) (hdb : (x == ("__debug__" : Str)) = false := by decide)
    (he : starEach (e :: es) X.env = (false, eval e X.env) :: starEach es X.env := by rfl) (hpl : (backTo pos (starEach es X.env)).any (·.1) = false := by rfl) (hm : notF m = true := by rfl) : PE X (.Call (.Name x p) (e :: es) [] pos) (tX X.K E0 m (fCall mm fs)) := by
  obtain ⟨f, fd, h1, h2, h3, h4⟩ := h.ex
  refine (pe_call h1 hr hg h4 h3 h2 .nil pass0 ha hdb he hpl).imp fun σ H Q q => ?_
  obtain ⟨c, δ, hK, ab, q⟩ := q
  refine ⟨c, δ, hK, ab, (Res.bind q).imp fun ds hds k vs H1 e1 r1 => ?_⟩
  refine ⟨BOf c σ δ m, ds, by rw [fArgs_len hds]; exact hl, by rw [List.append_nil, ← hK]; exact r1, (wish_mono k (ab.same.trans e1)).imp fun d _ k v H' e2 r2 => k v H' (e1.trans e2) ?_⟩
  have ab1 := ab.grow e1
  rw [← hK] at r2
  have r3 : Rep c.K (BOf c σ δ m) H' d v := Rep.weak r2 fun a z => by
    rcases z with z | z
    · exact z
    · have := ab1.av_new z
      cases m with
      | W => exact this.1
      | S => exact this
      | F => simp [notF] at hm
  cases m with
  | W => exact r3
  | S => exact r3
  | F => simp [notF] at hm
end
/-- the law itself -/
theorem law_sp {K : PySem.W.Frag} {H : Hp} {a : Addr} {ns : List Int} {mm : List D → Ou D} (hO : Only H) (hS : SqL K H a (ns.map V.int)) (h : mm [.frl (ns.map D.int)] = .ok (.bl true)) : spD K false 1 mm [.ref a] H (fun v _ => v = .bl true) fun _ _ _ => False := by
  refine ⟨fun _ => True, [.frl (ns.map D.int)], rfl, ?_, ?_⟩
  · simp only [Reps]
    refine ⟨.ref a, [], rfl, ?_, rfl⟩
    simp only [Rep]
    refine ⟨a, _, rfl, ?_, Reps.ints ns⟩
    rcases hS with (z | z) | z
    · rcases hO a with w | ⟨o, xs, w⟩
      · rw [w] at z; cases z
      · rw [w] at z; cases z
    · exact .inl z
    · exact .inr z
  · rw [h]
    intro v H' _ r
    have r' : Rep K (fun a => True ∨ H a = none) H' (.bl true) v := r
    simpa [Rep] using r'
end DL
namespace DL
open PySem PySem.Spec PyProof.Rows L2
section
variable {X : Cx} {E : XK} {m : Md} {a b e : Expr} {fa fb fe : Fn} {pos p : Pos} {es : List Expr} {fs : List Fn} {fr : Rm} {F G : Sm} {ga gb : DS → Ou Bool} {st : Stmt} {x : Str}

/-! ### built-in functions with a plain answer -/
def CallD (X : Cx) (f : Value) (g : List D → Ou D) : Prop :=
  ∃ r, CallR X f r ∧ ∀ (B : Addr → Prop) (H : Hp) (ds : List D) (vs : List V) (Q : VK), Reps X.K B H ds vs → (∀ d, g ds = .ok d → isS d = true ∧ (Q (toV d) H → r vs H Q)) ∧ ∀ z, g ds ≠ .ex z
theorem rd_cb {r : List V → Hp → VK → Prop} {g : List D → Ou D} {σ : St} {H : Hp} {Q : VK} (hr : ∀ (B : Addr → Prop) (H : Hp) (ds : List D) (vs : List V) (Q : VK), Reps X.K B H ds vs → (∀ d, g ds = .ok d → isS d = true ∧ (Q (toV d) H → r vs H Q)) ∧ ∀ z, g ds ≠ .ex z) (hm : notF m = true) (h : tX X.K E m (fCall g fs) σ H Q) : tCB r (tXA X.K E .W fs) σ H Q := by
  obtain ⟨c, δ, hK, ab, h⟩ := h
  refine ⟨c, δ, hK, ab, (Res.bind h).imp fun ds _ k vs H1 e1 r1 => ?_⟩
  have r1' : Reps X.K c.B H1 ds vs := by rw [← hK]; exact r1
  have q := hr c.B H1 ds vs Q r1'
  cases e : g ds with
  | ok d =>
    rw [e] at k
    exact (q.1 d e).2 (k (toV d) H1 e1 (Post.ofS hm (q.1 d e).1))
  | ex z => exact (q.2 z e).elim
  | bad => rw [e] at k; exact k.elim
theorem xb {id : String} {g : List D → Ou D} (hc : CallD X (.builtin id) g) (hm : X.mg x = none) (ha : PA X (e :: es) (tXA X.K E .W fs)) (hg : Gl X x := by rfl) (hv : bootBuiltins x = some (.builtin id) := by decide +kernel) (hn : x ≠ "__name__" := by decide) (hdb : (x == ("__debug__" : Str)) = false := by decide)
    (he : starEach (e :: es) X.env = (false, eval e X.env) :: starEach es X.env := by rfl) (hpl : (backTo pos (starEach es X.env)).any (·.1) = false := by rfl) (hf : notF m = true := by rfl) : PE X (.Call (.Name x p) (e :: es) [] pos) (tX X.K E m (fCall g fs)) := by
  obtain ⟨r, h1, h2⟩ := hc
  exact (pe_callB h1 hg hm hv ha hn hdb he hpl).imp fun σ H Q q => rd_cb h2 hf q
def gLen : List D → Ou D
  | [.tup ds] => .ok (.int (ds.length : Nat))
  | [.lst ds] => .ok (.int (ds.length : Nat))
  | [.frl ds] => .ok (.int (ds.length : Nat))
  | [.dic _ ds] => .ok (.int (ds.length : Nat))
  | [.str z] => if z.length ≤ sizeLine then .ok (.int (z.length : Nat)) else .bad
  | _ => .bad
theorem Reps.one' {K : PySem.W.Frag} {B : Addr → Prop} {H : Hp} {d : D} {vs : List V} (r : Reps K B H [d] vs) : ∃ v, vs = [v] ∧ Rep K B H d v := by
  simp only [Reps] at r
  obtain ⟨v, r', rfl, h1, rfl⟩ := r
  exact ⟨v, rfl, h1⟩
theorem Reps.two' {K : PySem.W.Frag} {B : Addr → Prop} {H : Hp} {d d' : D} {vs : List V} (r : Reps K B H [d, d'] vs) : ∃ v v', vs = [v, v'] ∧ Rep K B H d v ∧ Rep K B H d' v' := by
  simp only [Reps] at r
  obtain ⟨v, r', rfl, h1, v', r'', rfl, h2, rfl⟩ := r
  exact ⟨v, v', rfl, h1, h2⟩
theorem call_lenR : CallR X (.builtin "len") (fun xs H Q => ∃ a kvs, xs = [V.ref a] ∧ Rd H a (.dK kvs) ∧ Q (.int kvs.length) H) := by
  intro pins s σ H xs us Q I r h
  obtain ⟨a, kvs, rfl, ha, q⟩ := h
  obtain ⟨u, rfl, ru⟩ := vals1 r
  cases ru
  exact d_len I ha fun t s' I' => ⟨.int kvs.length, H, I', ⟨t, rfl⟩, q⟩
theorem cd_len : CallD X (.builtin "len") gLen := by
  refine ⟨_, CallR.or call_len_seq (CallR.or call_len_str call_lenR), fun B H ds vs Q r => ⟨fun d h => ?_, fun z h => ?_⟩⟩
  · unfold gLen at h
    split at h
    · cases h
      obtain ⟨v, rfl, r2⟩ := r.one'
      simp only [Rep] at r2
      obtain ⟨a, xs, rfl, h1, h2⟩ := r2
      exact ⟨rfl, fun q => .inl ⟨a, xs, rfl, .inr h1, by rw [h2.length]; exact q⟩⟩
    · cases h
      obtain ⟨v, rfl, r2⟩ := r.one'
      simp only [Rep] at r2
      obtain ⟨a, xs, rfl, _, h1, h2⟩ := r2
      exact ⟨rfl, fun q => .inl ⟨a, xs, rfl, .inl (.of h1), by rw [h2.length]; exact q⟩⟩
    · cases h
      obtain ⟨v, rfl, r2⟩ := r.one'
      simp only [Rep] at r2
      obtain ⟨a, xs, rfl, h1, h2⟩ := r2
      exact ⟨rfl, fun q => .inl ⟨a, xs, rfl, .inl h1.sq, by rw [h2.length]; exact q⟩⟩
    · cases h
      obtain ⟨v, rfl, r2⟩ := r.one'
      simp only [Rep] at r2
      obtain ⟨a, kvs, rfl, _, h1, _, h2⟩ := r2
      have hl := h2.length
      rw [List.length_map] at hl
      exact ⟨rfl, fun q => .inr (.inr ⟨a, kvs, rfl, h1, by rw [hl]; exact q⟩)⟩
    · split at h
      · rename_i z hl
        cases h
        obtain ⟨v, rfl, r2⟩ := r.one'
        simp only [Rep] at r2
        subst r2
        exact ⟨rfl, fun q => .inr (.inl ⟨_, rfl, hl, q⟩)⟩
      · cases h
    · cases h
  · unfold gLen at h
    split at h <;> first | cases h | (split at h <;> cases h)
def gMin : List D → Ou D
  | [.int i, .int j] => .ok (.int (if j < i then j else i))
  | _ => .bad
def gMax : List D → Ou D
  | [.int i, .int j] => .ok (.int (if j > i then j else i))
  | _ => .bad
def gStr : List D → Ou D
  | [.int i] => if i.natAbs.log2 < 1920 then .ok (.str (toString i)) else .bad
  | _ => .bad
/-! ### isinstance against a built-in class -/
def kitTT (t T : String) : Option Bool := if (Value.type t == Value.type T) = true then some true else if PySem.W.kitMeta T = true then (PySem.fastBuiltinMro t).map (·.contains (.type T)) else none
/-- the class of a value -/
inductive TyV (K : PySem.W.Frag) (H : Hp) : V → String → Prop where
  | non : TyV K H .non "NoneType"
  | bl (x : Bool) : TyV K H (.bl x) "bool"
  | int (i : Int) : TyV K H (.int i) "int"
  | str (x : Str) : TyV K H (.str x) "str"
  | lst {a : Addr} {xs : List V} (e : SqL K H a xs) : TyV K H (.ref a) "list"
  | tup {a : Addr} {xs : List V} (e : SqT K H a xs) : TyV K H (.ref a) "tuple"
theorem call_isT : CallR X (.builtin "isinstance") (fun vs H Q => ∃ v t T k, vs = [v, .ty T] ∧ TyV X.K H v t ∧ kitTT t T = some k ∧ Q (.bl k) H) := by
  intro pins s σ H xs us Q I r h
  obtain ⟨v, t, T, k, rfl, ty, hk, q⟩ := h
  obtain ⟨u, w', rfl, ru, rw'⟩ := vals2 r
  obtain rfl : w' = Value.type T := rw'
  have e : PySem.W.kitOne X.K (.type t) (.type T) = some k := hk
  have fin : ∀ tk, EP X pins σ Q (.bool k) { s with toks := tk } := fun tk => ⟨.bl k, H, I.tok tk, rfl, q⟩
  cases ty with
  | non => cases (show u = Value.none from ru); exact PySem.W.kia_one PySem.W.kitx_none I.kIn True.intro e (fun z => nomatch z) fin
  | bl y => cases (show u = Value.bool y from ru); exact PySem.W.kia_one PySem.W.kitx_bool I.kIn True.intro e (fun z => nomatch z) fin
  | int i => obtain ⟨t, z⟩ := (show ∃ t, u = Value.int i t from ru); cases z; exact PySem.W.kia_one PySem.W.kitx_int I.kIn True.intro e (fun z => nomatch z) fin
  | str y => obtain ⟨t, z⟩ := (show ∃ t, u = Value.str y t from ru); cases z; exact PySem.W.kia_one PySem.W.kitx_str I.kIn True.intro e (fun z => nomatch z) fin
  | @lst a xs ea =>
    cases (show u = Value.ref a from ru)
    obtain ⟨its, _, ⟨o, n, h1, h2, _⟩, _⟩ := I.list ea
    exact PySem.W.kia_one PySem.W.kitx_list I.kIn ⟨o, h1, h2⟩ e (fun z => nomatch z) fin
  | @tup a xs ea =>
    cases (show u = Value.ref a from ru)
    obtain ⟨its, _, ⟨o, h1, h2, _⟩, _⟩ := I.tuple ea
    exact PySem.W.kia_one PySem.W.kitx_tuple I.kIn ⟨o, h1, h2⟩ e (fun z => nomatch z) fin
def tyN : D → String
  | .non => "NoneType"
  | .bl _ => "bool"
  | .int _ => "int"
  | .str _ => "str"
  | .tup _ => "tuple"
  | .lst _ => "list"
  | .frl _ => "list"
  | .dic _ _ => "dict"
  | .obj _ => "object"
  | .dip _ _ => "dict"
  | .exc _ _ _ => "object"
def isT (t T : String) : Bool := t == T || (t == "bool" && T == "int")
def gIs (T : String) : D → Ou D
  | .obj _ => .bad
  | .dic _ _ => .bad
  | .dip _ _ => .bad
  | .exc _ _ _ => .bad
  | d => .ok (.bl (isT (tyN d) T))
theorem ty_of {K : PySem.W.Frag} {B : Addr → Prop} {H : Hp} {d : D} {v : V} (r : Rep K B H d v) (hd : rk d ≠ 3) : TyV K H v (tyN d) ∧ tyN d ∈ ["NoneType", "bool", "int", "str", "tuple", "list"] := by
  cases d <;> simp only [Rep] at r
  · subst r; exact ⟨.non, by decide⟩
  · subst r; exact ⟨.bl _, by simp [tyN]⟩
  · subst r; exact ⟨.int _, by simp [tyN]⟩
  · subst r; exact ⟨.str _, by simp [tyN]⟩
  · obtain ⟨a, xs, rfl, h1, _⟩ := r; exact ⟨.tup h1, by simp [tyN]⟩
  · obtain ⟨a, xs, rfl, _, h1, _⟩ := r; exact ⟨.lst (.of h1), by simp [tyN]⟩
  · obtain ⟨a, xs, rfl, h1, _⟩ := r; exact ⟨.lst h1.sq, by simp [tyN]⟩
  · exact absurd rfl hd
  · exact absurd rfl hd
  · exact absurd rfl hd
  · exact absurd rfl hd
theorem xis {T : String} {tx : Str} {p2 : Pos} (z1 : X.mg "isinstance" = none) (z2 : X.mg tx = none) (ha : PE X a (tX X.K E .W fa)) (hb : bootBuiltins tx = some (.type T) := by decide +kernel)
    (hT : ∀ t ∈ ["NoneType", "bool", "int", "str", "tuple", "list"], kitTT t T = some (isT t T) := by decide +kernel) (hg1 : Gl X "isinstance" := by rfl) (hg2 : Gl X tx := by rfl) (hn : tx ≠ "__name__" := by decide) (hdb : (tx == ("__debug__" : Str)) = false := by decide)
    (he : starEach [a, .Name tx p2] X.env = (false, eval a X.env) :: starEach [.Name tx p2] X.env := by rfl) (he2 : starEach [.Name tx p2] X.env = (false, eval (.Name tx p2) X.env) :: starEach [] X.env := by rfl) (hpl : (backTo pos (starEach [.Name tx p2] X.env)).any (·.1) = false := by rfl) (hf : notF m = true := by rfl) :
    PE X (.Call (.Name "isinstance" p) [a, .Name tx p2] [] pos) (tX X.K E m (f1 (gIs T) fa)) := by
  have hty : PE X (.Name tx p2) (tC (.ty T)) := pe_bltn hg2 z2 hb rfl hn hdb
  refine (pe_callB call_isT hg1 z1 (by decide +kernel) (pa_cons ha (pa_cons hty pa_nil he2) he) (by decide) (by decide) he hpl).imp fun σ H Q q => ?_
  obtain ⟨c, δ, hK, ab, q⟩ := q
  refine ⟨c, δ, hK, ab, (Res.bind q).imp fun d _ k v H1 e1 r1 => ?_⟩
  have r1' : Rep X.K c.B H1 d v := by rw [← hK]; exact r1
  by_cases hd : rk d = 3
  · cases d <;> first | exact k.elim | (simp [rk] at hd)
  · have hg : gIs T d = .ok (.bl (isT (tyN d) T)) := by
      cases d <;> first | rfl | exact absurd rfl hd
    rw [hg] at k
    obtain ⟨t1, t2⟩ := ty_of r1' hd
    exact ⟨v, tyN d, T, _, rfl, t1, hT _ t2, k _ H1 e1 (Post.ofS hf rfl)⟩
/-! ### the bits of a number -/
def gBits : D → Ou D
  | .int i => .ok (.int (Builtin.Int.intBits i : Nat))
  | _ => .bad
/-! ### loops over a range -/
theorem xs_rng1 {tg : Expr} {body : List Stmt} {g : D → DS → Ou DS} (hp : PassesOwn (model X.prog X.w) X.A X.env X.xe) (hc : X.calm = true) (hm : X.mg "range" = none) (ha : PA X [a] (tXA X.K E .W [fa])) (hg : PG X tg (tG X.K E g)) (hb : PSs X body (tS X.K E fr F))
    (hgl : Gl X "range" := by rfl) (hse : starEach [a] X.env = [(false, eval a X.env)] := by rfl) (hs : ∀ x, foldedSetIterable (.Call (.Name "range" p) [a] [] pos) X.env x = pure x := by intro _; rfl) {fpos : Pos} :
    PS X (.For tg (.Call (.Name "range" p) [a] [] pos) body [] fpos) (tS X.K E fr (sRng [fa] g F)) := (ps_for hp hc (pi_range1 hgl hm ha hse) hg hb hs).imp fun D σ H q => by
  obtain ⟨c, δ, hK, ab, q⟩ := q
  refine ⟨c, δ, hK, ab, (Res.bind q).imp fun ds hds k vs H1 e1 r1 => ?_⟩
  have hl : ds.length = 1 := fArgs_len hds
  obtain ⟨d, rfl⟩ : ∃ d, ds = [d] := by
    cases ds with
    | nil => cases hl
    | cons d r =>
      cases r with
      | nil => exact ⟨d, rfl⟩
      | cons d' r => simp at hl
  obtain ⟨v, rfl, r2⟩ := r1.one'
  cases d <;> first | exact k.elim | skip
  simp only [Rep] at r2
  subst r2
  rename_i j
  by_cases hj : rOk j = true
  · simp only [hj, if_true] at k
    have hj' := of_decide_eq_true hj
    exact ⟨j, rfl, hj'.1, hj'.2, rd_rng1 hK (ab.grow e1) k ab.pi⟩
  · simp only [if_neg hj] at k
    exact k.elim
/-! ### lists: slices, +, append, a place set; two names at once -/
def fPart : Option Fn → DS → Ou (Option Int)
  | none, _ => .ok none
  | some f, δ => (f δ).bind fun d => match d with
    | .int i => .ok (some i)
    | _ => .bad
def tP (K : PySem.W.Frag) (E : XK) (f : Option Fn) : TO := fun σ H Q => ∃ c δ, c.K = K ∧ Abs c σ δ H ∧ Res K E c.H₀ (fPart f δ) fun i => ∀ H', Same H H' → Q i H'
theorem PO.imp {e : Option Expr} {t t' : TO} (h : PO X e t) (hi : ∀ σ H Q, t' σ H Q → t σ H Q) : PO X e t' := fun pins s σ H Q I q => h pins s σ H Q I (hi _ _ _ q)
theorem po_none' : PO X none (tP X.K E none) := PO.imp po_none fun σ H Q q => by
  obtain ⟨c, δ, hK, ab, q⟩ := q
  exact q H (Same.refl H)
theorem po_some' (h : PE X e (tX X.K E .W fe)) : PO X (some e) (tP X.K E (some fe)) := PO.imp (po_some h) fun σ H Q q => by
  obtain ⟨c, δ, hK, ab, q⟩ := q
  refine ⟨c, δ, hK, ab, (Res.bind q).imp fun d _ k v H1 e1 r1 => ?_⟩
  have r1' : Rep c.K c.B H1 d v := r1
  cases d <;> first | exact k.elim | skip
  simp only [Rep] at r1'
  exact ⟨_, r1', k H1 e1⟩
def cutD (xs : List D) (lo hi : Option Int) : List D := (xs.drop (HT.sIx xs.length 0 lo)).take (HT.sIx xs.length xs.length hi - HT.sIx xs.length 0 lo)
def fSl (f : Fn) (lo hi : Option Fn) : Fn := fun δ => (f δ).bind fun d => (fPart lo δ).bind fun l => (fPart hi δ).bind fun u => match d with
  | .lst ds => .ok (.lst (cutD ds l u))
  | .frl ds => .ok (.lst (cutD ds l u))
  | _ => .bad
theorem Reps.cut {K : PySem.W.Frag} {B : Addr → Prop} {H : Hp} {ds : List D} {vs : List V} (lo hi : Option Int) (r : Reps K B H ds vs) : Reps K B H (cutD ds lo hi) (cutV vs lo hi) := by
  unfold cutD cutV
  rw [r.length]
  exact Reps.take _ (Reps.drop _ r)
theorem xsl {lo hi : Option Expr} {flo fhi : Option Fn} {p2 : Pos} (he : PE X e (tX X.K E .S fe)) (hl : PO X lo (tP X.K E flo)) (hu : PO X hi (tP X.K E fhi)) : PE X (.Subscript e (.Slice lo hi none p2) pos) (tX X.K E .F (fSl fe flo fhi)) := (pe_slice sl_list he hl hu).imp fun σ H Q q => by
  obtain ⟨c, δ, hK, ab, q⟩ := q
  refine ⟨c, δ, hK, ab, (Res.bind q).imp fun d hd k v H1 e1 r1 => ?_⟩
  refine ⟨c, δ, hK, ab.grow e1, (Res.bind k).imp fun l _ k H2 e2 => ?_⟩
  refine ⟨c, δ, hK, (ab.grow e1).grow e2, (Res.bind k).imp fun u _ k H3 e3 => ?_⟩
  have r1' : Rep c.K (Av c σ δ) H3 d v := Rep.same (Rep.same (show Rep c.K (Av c σ δ) H1 d v from r1) e2) e3
  have e13 := (e1.trans e2).trans e3
  cases d <;> first | exact k.elim | skip
  · rename_i ds
    simp only [Rep] at r1'
    obtain ⟨a, xs, rfl, _, h1, h2⟩ := r1'
    exact ⟨a, xs, rfl, .of h1, fun p hp => k (.ref p) _ (e13.trans (same_new hp _)) ⟨p, _, rfl, e13.free hp, upd_same, _, rfl, (Reps.off (Reps.cut l u h2) hp).same (same_new hp _)⟩⟩
  · rename_i ds
    simp only [Rep] at r1'
    obtain ⟨a, xs, rfl, h1, h2⟩ := r1'
    exact ⟨a, xs, rfl, by rw [← hK]; exact h1.sq, fun p hp => k (.ref p) _ (e13.trans (same_new hp _)) ⟨p, _, rfl, e13.free hp, upd_same, _, rfl, (Reps.off (Reps.cut l u h2) hp).same (same_new hp _)⟩⟩
theorem op_catQ : OpR X (binaryOp .Add) (fun x y H Q => ∃ a b xs ys, x = .ref a ∧ y = .ref b ∧ SqL X.K H a xs ∧ SqL X.K H b ys ∧ xs.length + ys.length ≤ sizeLine ∧ ∀ p, H p = none → Q (.ref p) (upd H p (.lst (xs ++ ys)))) := by
  intro pins s σ H x y v u Q I rx ry h
  obtain ⟨a, b, xs, ys, rfl, rfl, h1, h2, hz, q⟩ := h
  cases rx
  cases ry
  obtain ⟨us, r1, ⟨⟨cls, dd, data, sl⟩, n, ho, hc, hdn, hd⟩, _⟩ := I.list h1
  obtain ⟨ws, r2, ⟨⟨cls2, dd2, data2, sl2⟩, n2, ho2, hc2, hdn2, hd2⟩, _⟩ := I.list h2
  simp only at hc hd hc2 hd2
  subst hc hd hc2 hd2
  have l1 := r1.length
  have l2 := r2.length
  have ea : us.toArray ++ ws.toArray = (us ++ ws).toArray := by simp
  refine concat_meets ⟨_, ho, rfl⟩ ⟨_, ho2, rfl⟩ noFill_list_add seq_list_add PySem.F.slot_list_add PySem.F.entry_list_add (PySem.F.args_list_add_2 _ _) (list_addW a b us.toArray ws.toArray n n2 dd dd2 sl sl2 (by rw [List.size_toArray, List.size_toArray]; lia)) ⟨ho, ho2, ?_⟩
  rw [ea]
  exact ⟨.ref _, _, I.lnew (t' := s.toks) (r1.append r2) (by rw [List.length_append]; lia), rfl, q _ I.fresh⟩
def gCat : D → D → Ou D
  | .lst xs, .lst ys => if xs.length + ys.length ≤ sizeLine then .ok (.lst (xs ++ ys)) else .bad
  | .frl xs, .lst ys => if xs.length + ys.length ≤ sizeLine then .ok (.lst (xs ++ ys)) else .bad
  | _, _ => .bad
theorem xcat (ha : PE X a (tX X.K E .S fa)) (hb : PE X b (tX X.K E .S fb)) : PE X (.BinOp a .Add b pos) (tX X.K E .F (f2 gCat fa fb)) := (pe_op op_catQ ha hb).imp fun σ H Q q => by
  obtain ⟨c, δ, hK, ab, q⟩ := q
  refine ⟨c, δ, hK, ab, (Res.bind q).imp fun dx hx0 k x H1 e1 r1 => ?_⟩
  refine ⟨c, δ, hK, ab.grow e1, (Res.bind k).imp fun dy hy0 k2 y H2 e2 r2 => ?_⟩
  have r1' : Rep c.K (Av c σ δ) H2 dx x := Rep.same (show Rep c.K (Av c σ δ) H1 dx x from r1) e2
  have r2' : Rep c.K (Av c σ δ) H2 dy y := r2
  cases dx <;> first | (cases dy <;> exact k2.elim) | skip
  · rename_i xs
    cases dy <;> first | exact k2.elim | skip
    rename_i ys
    simp only [Rep] at r1' r2'
    obtain ⟨a, vs, rfl, _, h1, h2⟩ := r1'
    obtain ⟨b, us, rfl, _, h3, h4⟩ := r2'
    unfold gCat at k2
    by_cases hl : xs.length + ys.length ≤ sizeLine
    · simp only [if_pos hl] at k2
      exact ⟨a, b, vs, us, rfl, rfl, .of h1, .of h3, by rw [h2.length, h4.length]; exact hl, fun p hp => k2 (.ref p) _ ((e1.trans e2).trans (same_new hp _)) ⟨p, _, rfl, (e1.trans e2).free hp, upd_same, _, rfl, (Reps.off (Reps.append h2 h4) hp).same (same_new hp _)⟩⟩
    · simp only [if_neg hl] at k2
      exact k2.elim
  · rename_i xs
    cases dy <;> first | exact k2.elim | skip
    rename_i ys
    simp only [Rep] at r1' r2'
    obtain ⟨a, vs, rfl, h1, h2⟩ := r1'
    obtain ⟨b, us, rfl, _, h3, h4⟩ := r2'
    unfold gCat at k2
    by_cases hl : xs.length + ys.length ≤ sizeLine
    · simp only [if_pos hl] at k2
      exact ⟨a, b, vs, us, rfl, rfl, (by rw [← hK]; exact h1.sq), .of h3, by rw [h2.length, h4.length]; exact hl, fun p hp => k2 (.ref p) _ ((e1.trans e2).trans (same_new hp _)) ⟨p, _, rfl, (e1.trans e2).free hp, upd_same, _, rfl, (Reps.off (Reps.append h2 h4) hp).same (same_new hp _)⟩⟩
    · simp only [if_neg hl] at k2
      exact k2.elim
def sApp (i : Nat) (f : Fn) : Sm := fun δ => match δ[i]? with
  | some (.own (.lst ds)) => (f δ).bind fun d => if ds.length < sizeLine then .ok (.nx (δ.set i (.own (.lst (ds ++ [d]))))) else .bad
  | _ => .bad
theorem xs_app (i : Nat) {px apos cpos : Pos} (he : PE X e (tX X.K E .S fe)) (hN : X.N[i]? = some x := by rfl) (hv : Vis X.env.scope x := by first | exact Or.inl rfl | exact Or.inr (Or.inl rfl) | exact Or.inr (Or.inr rfl)) (hd : (x == ("__debug__" : Str)) = false := by decide) (hcd : (x == ("__classdict__" : Str)) = false := by decide)
    (hst : starEach [e] X.env = (false, eval e X.env) :: starEach [] X.env := by rfl) (hs : swapsWith (.Call (.Attribute (.Name x px) "append" apos) [e] [] cpos) none pos.line X.env = pure false := by rfl) (hb : attributeBase (.Name x px) "append" X.env (eval (.Name x px) X.env) = eval (.Name x px) X.env := by rfl) (h1 : (apos.endLine == cpos.line) = true := by rfl)
    (h2 : (backTo cpos (starEach ([] : List Expr) X.env)).any (·.1) = false := by rfl)
    (hfew : ((backTo cpos (starEach [e] X.env)).all (fun x => !x.1) && (backToKw cpos (keywordEach [] X.env)).all (fun x => x.1.isSome) && decide (([e] : List Expr).length + ([] : List Keyword).length + (if ([] : List Keyword).isEmpty then 0 else 1) < 30)) = true := by rfl) :
    PS X (.Expr (.Call (.Attribute (.Name x px) "append" apos) [e] [] cpos) pos) (tS X.K E fr (sApp i fe)) :=
  (ps_expr (pe_bm PySem.F.plainAttrs_list PySem.F.slot_list_append PySem.F.type_list_append mt_append (pv i hN hv hd hcd) (pa_cons he pa_nil hst) hb hfew h1 hst h2) hs).imp fun D σ H q => by
  obtain ⟨c, δ, hK, ab, q⟩ := q
  unfold sApp at q
  cases e0 : δ[i]? with
  | none => rw [e0] at q; exact q.elim
  | some s =>
    rw [e0] at q
    cases s with
    | un => exact q.elim
    | val d => exact q.elim
    | own d =>
      cases d <;> first | exact q.elim | skip
      rename_i ds
      obtain ⟨p, o, g1, g2, g3, xs, rfl, g4⟩ := ab.own i _ e0
      refine ⟨.ref p, g1, .inl ⟨rfl, xs, .of g2⟩, c, δ, hK, ab, (Res.bind q).imp fun d _ k v H1 e1 r1 => ?_⟩
      by_cases hl : ds.length < sizeLine
      · simp only [if_pos hl] at k
        have z2 := e1 _ _ g2
        exact ⟨p, xs, v, rfl, rfl, z2, by rw [g4.length]; exact hl, k σ _ ((ab.grow e1).mut e0 g1 ⟨_, rfl, Reps.append (g4.same e1) (Reps.one r1)⟩)⟩
      · simp only [if_neg hl] at k
        exact k.elim
def sPut (i : Nat) (fk fv : Fn) : Sm := fun δ => (fv δ).bind fun d => match δ[i]? with
  | some (.own (.lst ds)) => (fk δ).bind fun k => match k with
    | .int j => (match ixN ds.length j with
      | some n => .ok (.nx (δ.set i (.own (.lst (ds.set n d)))))
      | none => .bad)
    | _ => .bad
  | _ => .bad
def gNm2 (i j : Nat) : D → DS → Ou DS := fun d δ => match d with
  | .tup [x, y] => .ok ((δ.set i (.val x)).set j (.val y))
  | _ => .bad
theorem xg_2 (i j : Nat) {y : Str} {px py : Pos} {k2 : _} (hN : X.N.Nodup) (hc : X.calm = true := by rfl) (hi : X.N[i]? = some x := by rfl) (hj : X.N[j]? = some y := by rfl) (hx : Loc X.env.scope x := by first | exact Or.inl rfl | exact Or.inr rfl) (hy : Loc X.env.scope y := by first | exact Or.inl rfl | exact Or.inr rfl)
    (hfx : X.fn x = true ∨ X.env.scope.names.lookup x = some .local := by first | exact .inl rfl | exact .inr rfl) (hfy : X.fn y = true ∨ X.env.scope.names.lookup y = some .local := by first | exact .inl rfl | exact .inr rfl)
    (h1 : (assignEach [.Name x px, .Name y py] X.env).map (·.2) = assign (.Name x px) X.env :: (assignEach [.Name y py] X.env).map (·.2) := by rfl) (h2 : (assignEach [.Name y py] X.env).map (·.2) = assign (.Name y py) X.env :: (assignEach [] X.env).map (·.2) := by rfl)
    (hn : (assignEach [.Name x px, .Name y py] X.env).length = 2 := by rfl) (hst : (assignEach [.Name x px, .Name y py] X.env).findIdx? (·.1) = none := by rfl) : PG X (.Tuple [.Name x px, .Name y py] k2 pos) (tG X.K E (gNm2 i j)) :=
  (pg_tup hc (pgs_cons (pg_name hN hi hx hfx) (pgs_cons (pg_name hN hj hy hfy) pgs_nil h2) h1) hn hst).imp fun v σ H Q q => by
  obtain ⟨c, δ, d, hK, ab, r, q⟩ := q
  unfold gNm2 at q
  split at q
  · rename_i d1 d2
    simp only [Rep] at r
    obtain ⟨a, xs, rfl, h1, h2⟩ := r
    obtain ⟨v1, v2, rfl, r1, r2⟩ := h2.two'
    refine ⟨a, [v1, v2], rfl, by rw [← hK]; exact h1, rfl, v1, [v2], rfl, v2, [], rfl, rfl, ?_⟩
    have ab1 := ab.set_val (i := i) (Same.refl H) r1
    exact q _ H (Same.refl H) (ab1.set_val (i := j) (Same.refl H) (r2.weak fun a z => ⟨z.1, fun o => z.2 (own_set_val o)⟩))
  · exact q.elim
def sAsg (f : Fn) (g : D → DS → Ou DS) : Sm := fun δ => (f δ).bind fun d => (g d δ).bind fun δ' => .ok (.nx δ')
end
end DL
namespace DL
open PySem PySem.Spec PyProof.Rows L2
/-! ### comprehensions -/
def compL (g : D → DS → Ou DS) (gc : DS → Ou Bool) (fe : Fn) : List D → DS → Ou (List D)
  | [], _ => .ok []
  | x :: xs, δ => (g x δ).bind fun δ1 => (gc δ1).bind fun b => if b = true then (fe δ1).bind fun y => (compL g gc fe xs δ1).bind fun ys => .ok (y :: ys) else compL g gc fe xs δ1
def slIn : Option Sl → Sl
  | some (.val d) => .val d
  | _ => .un
def dsIn (k : Nat) (ix : List Nat) (δ : DS) : DS := List.replicate k .un ++ ix.map fun i => slIn δ[i]?
def fYes : DS → Ou Bool := fun _ => .ok true
def fComp (fi : DS → Ou (List D)) (g : D → DS → Ou DS) (gc : DS → Ou Bool) (fe : Fn) (k : Nat) (ix : List Nat) : Fn := fun δ => (fi δ).bind fun ds => if ds.length ≤ sizeLine then (compL g gc fe ds (dsIn k ix δ)).bind fun ys => .ok (.lst ys) else .bad
/-- the items that are walked -/
def fItems (f : Fn) : DS → Ou (List D) := fun δ => (f δ).bind fun d => match d with
  | .lst ds => .ok ds
  | .frl ds => .ok ds
  | _ => .bad
def fItemsT (f : Fn) : DS → Ou (List D) := fun δ => (f δ).bind fun d => match d with
  | .tup ds => .ok ds
  | _ => .bad
def fRange (fs : List Fn) : DS → Ou (List D) := fun δ => (fArgs fs δ).bind fun ds => match ds with
  | [.int j] => if rOk j = true then .ok (rng 0 j.toNat) else .bad
  | [.int i, .int j] => if rOk i = true ∧ rOk j = true then .ok (rng i (j - i).toNat) else .bad
  | _ => .bad
section
variable {c : Cn} {σ : St} {δ : DS} {H H1 : Hp}
/-- a list that no name has is changed -/
theorem Abs.off {p : Addr} {ys zs : List V} (a : Abs c σ δ H) (hp : H p = some (.lst ys)) (h0 : c.H₀ p = none) (hB : ¬ c.B p) : Abs c σ δ (upd H p (.lst zs)) := by
  have hne : ∀ q, Av c σ δ q → q ≠ p := fun q z e => by subst e; exact hB z.1
  have st : Stay c.K (Av c σ δ) H (upd H p (.lst zs)) := ⟨fun q ys z => by
      rcases z with (z | ⟨o, z⟩) | z
      · exact .inl (.inl (by rw [upd_ne (ne_of z hp (by intro w; cases w))]; exact z))
      · exact .inl (.inr ⟨o, by rw [upd_ne (ne_of z hp (by intro w; cases w))]; exact z⟩)
      · exact .inr z, fun q ys z => by
      rcases z with ⟨o, z⟩ | z
      · exact .inl ⟨o, by rw [upd_ne (ne_of z hp (by intro w; cases w))]; exact z⟩
      · exact .inr z, fun q o z w => by rw [upd_ne (hne q z)]; exact w⟩
  refine ⟨fun b o z => ?_, fun b z => a.fr b ?_, a.len, fun j d z => ?_, fun j d z => ?_, fun d v z => Rep.mono (fun _ _ w _ => w) st d v (a.gho d v z), a.inj, a.pin⟩
  · rw [upd_ne (ne_of_none z h0)]; exact a.same b o z
  · by_cases hb : b = p
    · subst hb; rw [upd_same] at z; cases z
    · rw [upd_ne hb] at z; exact z
  · obtain ⟨v, z1, z2⟩ := a.val j d z
    exact ⟨v, z1, Rep.mono (fun _ _ w _ => w) st d v z2⟩
  · obtain ⟨q, o, z1, z2, z3, z4⟩ := a.own j d z
    refine ⟨q, o, z1, ?_, z3, RepO.mono (fun _ _ w _ => w) st z4⟩
    rw [upd_ne fun e => by subst e; exact hB z3.2]
    exact z2
/-- the block's begin -/
theorem Abs.block {p : Addr} {k : Nat} {ix : List Nat} (a : Abs c σ δ H) (hp : H p = none) :
    Abs { K := c.K, B := fun q => Av c σ δ q ∧ q ≠ p, H₀ := H, G := [] } (σin k ix σ) (dsIn k ix δ) (upd H p (.lst [])) := by
  have no : ∀ (i : Nat) (z : D), (dsIn k ix δ)[i]? = some (Sl.own z) → False := fun i z h => by
    unfold dsIn at h
    rw [List.getElem?_append] at h
    split at h
    · rw [List.getElem?_replicate] at h
      split at h <;> cases h
    · rw [List.getElem?_map] at h
      cases e : ix[i - (List.replicate k Sl.un).length]? with
      | none => rw [e] at h; cases h
      | some j =>
        rw [e] at h
        have h' : slIn δ[j]? = Sl.own z := Option.some.inj h
        unfold slIn at h'
        split at h' <;> cases h'
  have nown : ∀ q, ¬ Own (σin k ix σ) (dsIn k ix δ) q := fun q ⟨i, z, h, _⟩ => no i z h
  refine ⟨same_new hp _, fun b hb => ?_, ?_, fun i d h => ?_, fun i z h => (no i z h).elim, fun d v h => (nomatch h), fun i j di dj q h => (no i di h).elim, fun i q hP => (nomatch hP)⟩
  · by_cases e : b = p
    · subst e; rw [upd_same] at hb; cases hb
    · rw [upd_ne e] at hb
      exact ⟨a.av_new hb, e⟩
  · unfold dsIn σin; simp
  · unfold dsIn at h
    rw [List.getElem?_append] at h
    split at h
    · rw [List.getElem?_replicate] at h
      split at h <;> cases h
    · rename_i hik
      rw [List.length_replicate] at hik h
      rw [List.getElem?_map] at h
      cases e : ix[i - k]? with
      | none => rw [e] at h; cases h
      | some j =>
        rw [e] at h
        have h' : slIn δ[j]? = Sl.val d := Option.some.inj h
        have hj : δ[j]? = some (Sl.val d) := by
          unfold slIn at h'
          split at h'
          · cases h'; assumption
          · cases h'
        obtain ⟨v, z1, z2⟩ := a.val j d hj
        refine ⟨v, ?_, ?_⟩
        · unfold σin
          rw [List.getElem?_append_right (by rw [List.length_replicate]; lia), List.length_replicate, List.getElem?_map, e]
          show some ((σ[j]?).join) = _
          rw [z1]; rfl
        · refine Rep.mono (fun q o w1 w2 => ⟨⟨w1, ne_of_none w2 hp⟩, nown q⟩) (.of_same (same_new hp _)) d v z2
/-- what an iterator yields, item by item -/
structure SrcI (J : It) (K : PySem.W.Frag) (B : Addr → Prop) (H1 : Hp) (ds : List D) : Prop where
  go : ∀ (i : Nat) (H' : Hp), Same H1 H' → i < ds.length → J.go i H'
  yld : ∀ (i : Nat) (H' : Hp) (x : V) (H'' : Hp) (d : D), Same H1 H' → ds[i]? = some d → J.yld i H' x H'' → H'' = H' ∧ Rep K B H1 d x
  stop : ∀ H' : Hp, Same H1 H' → J.stop ds.length H'
theorem comp_core {K : PySem.W.Frag} {J : It} {ds : List DL.D} {g : DL.D → DS → Ou DS} {gc : DS → Ou Bool} {fe : Fn} {k : Nat} {ix : List Nat} {Q : VK} (hK : c.K = K) (ab : Abs c σ δ H1) (src : SrcI J c.K (Av c σ δ) H1 ds) (hl : ds.length ≤ sizeLine)
    (kq : Res K E0 c.H₀ (compL g gc fe ds (dsIn k ix δ)) fun es => ∀ D xs H', H1 D = none → Same H1 H' → H' D = some (.lst xs) → Reps c.K (fun a => Av c σ δ a ∧ a ≠ D) H' es xs → Q (.ref D) H') :
    ∀ D, H1 D = none → ∃ W : Nat → Nat → St → List V → Hp → Prop, (∃ m, W 0 m (σin k ix σ) [] (upd H1 D (.lst []))) ∧
      ∀ i m σ ys H, W i m σ ys H → H D = some (.lst ys) ∧ ((J.stop i H ∧ Q (.ref D) H) ∨ (J.go i H ∧ ys.length < sizeLine ∧ ∃ N : St → List V → Hp → Prop, (∀ σ' ys' H', N σ' ys' H' → ∃ m', m' < m ∧ W (i + 1) m' σ' ys' H') ∧
        ∀ x H', J.yld i H x H' → tG K E0 g x σ H' fun σ2 H2 => tT K E0 gc σ2 H2 fun b H3 => if b = true then tX K E0 .S fe σ2 H3 fun y H4 => H4 D = some (.lst ys) ∧ N σ2 (ys ++ [y]) (upd H4 D (.lst (ys ++ [y]))) else N σ2 ys H3)) := by
  intro D hD
  let c' : Cn := { K := c.K, B := fun q => Av c σ δ q ∧ q ≠ D, H₀ := H1, G := [] }
  have hB' : ¬ c'.B D := fun z => z.2 rfl
  refine ⟨fun i m σ' ys H' => ∃ δ' es, Abs c' σ' δ' H' ∧ H' D = some (.lst ys) ∧ Reps c.K c'.B H' es ys ∧ m = ds.length - i ∧ i ≤ ds.length ∧ es.length ≤ i ∧
    Res K E0 c.H₀ (compL g gc fe (ds.drop i) δ') fun rest => ∀ xs H'', Same H1 H'' → H'' D = some (.lst xs) → Reps c.K c'.B H'' (es ++ rest) xs → Q (.ref D) H'',
    ⟨ds.length, dsIn k ix δ, [], ab.block hD, upd_same, by simp [Reps], by simp, Nat.zero_le _, Nat.zero_le _, ?_⟩, ?_⟩
  · exact kq.imp fun es _ z xs H'' e1 e2 e3 => z D xs H'' hD e1 e2 e3
  · rintro i m σ' ys H' ⟨δ', es, ab', hDy, hr, rfl, hi, hes, q⟩
    refine ⟨hDy, ?_⟩
    by_cases hlt : i < ds.length
    · refine .inr ⟨src.go i H' ab'.same hlt, ?_, fun σ' ys' H' => ∃ δ' es, Abs c' σ' δ' H' ∧ H' D = some (.lst ys') ∧ Reps c.K c'.B H' es ys' ∧ ds.length - (i + 1) = ds.length - (i + 1) ∧ i + 1 ≤ ds.length ∧ es.length ≤ i + 1 ∧
        Res K E0 c.H₀ (compL g gc fe (ds.drop (i + 1)) δ') fun rest => ∀ xs H'', Same H1 H'' → H'' D = some (.lst xs) → Reps c.K c'.B H'' (es ++ rest) xs → Q (.ref D) H'', fun σ' ys' H' n => ⟨ds.length - (i + 1), by lia, n⟩, fun x H2 y => ?_⟩
      · have := hr.length; lia
      have hd : ds[i]? = some ds[i] := by simp [hlt]
      obtain ⟨rfl, rx⟩ := src.yld i H' x H2 _ ab'.same hd y
      rw [List.drop_eq_getElem_cons hlt] at q
      have rx' : Rep c'.K (Av c' σ' δ') H2 ds[i] x := Rep.mono (fun a o w1 w2 => ⟨⟨w1, ne_of_none w2 hD⟩, fun ow => by
        obtain ⟨_, _, z⟩ := Own.is ab' ow
        have w3 := (show c'.H₀ a = some o from w2).symm.trans z
        cases w3⟩) (.of_same ab'.same) _ x rx
      refine ⟨c', δ', ds[i], hK, ab', rx', (wish_mono (Res.bind q) ab.same).imp fun δ2 _ k2 σ2 H3 e3 ab2 => ?_⟩
      refine ⟨c', δ2, hK, ab2, (wish_mono (Res.bind k2) ab.same).imp fun b _ k3 H4 e4 => ?_⟩
      cases b with
      | false => exact ⟨δ2, es, ab2.grow e4, e4 _ _ (e3 _ _ hDy), (hr.same e3).same e4, rfl, hlt, by lia, k3⟩
      | true =>
        have k3' : Res K E0 c.H₀ ((fe δ2).bind fun y => (compL g gc fe (ds.drop (i + 1)) δ2).bind fun ys => .ok (y :: ys)) _ := k3
        refine ⟨c', δ2, hK, ab2.grow e4, (wish_mono (Res.bind k3') ab.same).imp fun dy _ k4 y H5 e5 r5 => ?_⟩
        have hD5 := e5 _ _ (e4 _ _ (e3 _ _ hDy))
        have r5' : Rep c.K c'.B H5 dy y := Rep.weak (show Rep c'.K (Av c' σ2 δ2) H5 dy y from r5) fun a z => z.1
        have st : Stay c.K c'.B H5 (upd H5 D (.lst (ys ++ [y]))) := ⟨fun q ys z => by
            rcases z with (z | ⟨o, z⟩) | z
            · exact .inl (.inl (by rw [upd_ne (ne_of z hD5 (by intro w; cases w))]; exact z))
            · exact .inl (.inr ⟨o, by rw [upd_ne (ne_of z hD5 (by intro w; cases w))]; exact z⟩)
            · exact .inr z, fun q ys z => by
            rcases z with ⟨o, z⟩ | z
            · exact .inl ⟨o, by rw [upd_ne (ne_of z hD5 (by intro w; cases w))]; exact z⟩
            · exact .inr z, fun q o z w => by rw [upd_ne z.2]; exact w⟩
        refine ⟨hD5, δ2, es ++ [dy], ((ab2.grow e4).grow e5).off hD5 hD hB', upd_same, Reps.mono (fun _ _ w _ => w) st _ _ (Reps.append (((hr.same e3).same e4).same e5) (Reps.one r5')), rfl, hlt, by simp; lia, (Res.bind k4).imp fun rest _ k5 xs H'' s1 s2 s3 => k5 xs H'' s1 s2 ?_⟩
        rw [List.append_assoc] at s3
        exact s3
    · have e : i = ds.length := by lia
      subst e
      rw [List.drop_length] at q
      exact .inl ⟨src.stop H' ab'.same, q ys H' ab'.same hDy (by rw [List.append_nil]; exact hr)⟩
end
section
variable {X : Cx} {iter elt tg : Expr} {ifs : List Expr} {scope : Scope} {N' : List Str} {k : Nat} {ix : List Nat} {pos : Pos} {g : D → DS → Ou DS} {gc : DS → Ou Bool} {fe fl : Fn} {fs : List Fn} {a b : Expr} {p : Pos}
theorem xc_yes : PCs X [] (tT X.K E0 fYes) := fun pins s σ H Q I q => pcs_nil pins s σ H Q I (by
  obtain ⟨c, δ, hK, ab, q⟩ := q
  exact q H (Same.refl H))
theorem comp_read {wi : TI} {fi : DS → Ou (List D)} {σ : St} {H : Hp} {Q : VK} (q : tX X.K E0 .F (fComp fi g gc fe k ix) σ H Q)
    (hw : ∀ (c : Cn) (δ : DS) (R : It → Hp → Prop), c.K = X.K → Abs c σ δ H → Res X.K E0 c.H₀ (fi δ) (fun ds => ∀ J H1, Same H H1 → SrcI J c.K (Av c σ δ) H1 ds → R J H1) → wi σ H R) :
    tComp wi (tG X.K E0 g) (tT X.K E0 gc) (tX X.K E0 .S fe) k ix σ H Q := by
  obtain ⟨c, δ, hK, ab, q⟩ := q
  refine hw c δ _ hK ab ((Res.bind q).imp fun ds _ kq J H1 e1 src => ?_)
  by_cases hl : ds.length ≤ sizeLine
  · rw [if_pos hl] at kq
    refine comp_core hK (ab.grow e1) src hl ((Res.bind kq).imp fun es _ z D xs H' hD e2 h1 h2 => z (.ref D) H' (e1.trans e2) ⟨D, _, rfl, e1.free hD, h1, xs, rfl, h2⟩)
  · rw [if_neg hl] at kq
    exact kq.elim
theorem srcL {c : Cn} {σ : St} {δ : DS} {H1 : Hp} {p : Addr} {xs : List V} {ds : List D} (h1 : SqL c.K H1 p xs) (h2 : Reps c.K (Av c σ δ) H1 ds xs) : SrcI (Itl c.K p) c.K (Av c σ δ) H1 ds :=
  ⟨fun i H' e hi => ⟨xs, xs[i]'(by rw [h2.length]; exact hi), e.seq h1, List.getElem?_eq_getElem _⟩, fun i H' x H'' d e hd y => ⟨y.1, by
    obtain ⟨v, z1, z2⟩ := h2.get i d hd
    have := y.2 xs (e.seq h1)
    rw [z1] at this; cases this
    exact z2⟩, fun H' e => ⟨xs, e.seq h1, by rw [h2.length]; exact Nat.le_refl _⟩⟩
theorem xcompL (S : CNames X scope N' k ix) (hi : PE X iter (tX X.K E0 .S fl))
    (hb : ∀ C s2 H2 fp pins, PG (blk X N' scope C s2 H2 fp pins) tg (tG X.K E0 g) ∧ PCs (blk X N' scope C s2 H2 fp pins) ifs (tT X.K E0 gc) ∧ PE (blk X N' scope C s2 H2 fp pins) elt (tX X.K E0 .S fe))
    (hc : X.calm = true := by rfl) (hs : ∀ x, foldedSetIterable iter X.env x = pure x := by intro _; rfl) : CompR X (.ListComp elt [⟨tg, iter, ifs, 0⟩] scope pos) (tX X.K E0 .F (fComp (fItems fl) g gc fe k ix)) :=
  (comp_r hc S (pi_list hi) hb hs).imp fun σ H Q q => comp_read q fun c δ R hK ab kq => by
    refine ⟨c, δ, hK, ab, (Res.bind kq).imp fun d _ z v H1 e1 r1 => ?_⟩
    have r1' : Rep c.K (Av c σ δ) H1 d v := r1
    cases d <;> first | exact z.elim | skip
    · simp only [Rep] at r1'
      obtain ⟨p, xs, rfl, _, h1, h2⟩ := r1'
      exact ⟨p, rfl, ⟨xs, by rw [← hK]; exact .of h1⟩, by rw [← hK]; exact z _ H1 e1 (srcL (.of h1) h2)⟩
    · simp only [Rep] at r1'
      obtain ⟨p, xs, rfl, h1, h2⟩ := r1'
      exact ⟨p, rfl, ⟨xs, by rw [← hK]; exact h1.sq⟩, by rw [← hK]; exact z _ H1 e1 (srcL h1.sq h2)⟩
theorem xs_setC (i : Nat) {e : Expr} {x : Str} {pos' : Pos} {fr : Rm} (hN : X.N.Nodup) (he : CompR X e (tX X.K E0 .F fe)) (hi : X.N[i]? = some x := by rfl) (hx : Loc X.env.scope x := by first | exact Or.inl rfl | exact Or.inr rfl) (hs : swapsWith e (some (.Name x pos')) pos.line X.env = pure true := by rfl)
    (hf : X.fn x = true ∨ X.env.scope.names.lookup x = some .local := by first | exact .inl rfl | exact .inr rfl) : PS X (.Assign [.Name x pos'] e pos) (tS X.K E0 fr (sSet i fe)) := (he.ps i x pos' pos hN hi hx hs hf).imp fun D σ H q => by
  obtain ⟨c, δ, hK, ab, q⟩ := q
  exact ⟨c, δ, hK, ab, (Res.bind q).imp fun d _ k v H1 e1 r1 => k _ H1 (ab.set_val e1 (Post.toS ab r1))⟩
end
end DL
namespace L2
open PySem PySem.Spec PyProof.Rows
/-- what a class without an __init__ of its own must have to be made -/
structure Mk0 (K : PySem.W.Frag) (C : Addr) : Prop where
  makes : PySem.W.makesIn K C = true
  init : PySem.W.findIn K (.ref C) "__init__" = some (some (.builtin "object.__init__"))
  kp : PySem.W.keepIn K (.ref C) = true
section
variable {X : Cx} {C : Addr} {x : Str} {p pos : Pos}
def tMakeN (C : Addr) : TE := fun _ H Q => ∀ x dx, H x = none → H dx = none → dx ≠ x → Q (.ref x) (upd (upd H dx (.own x)) x (.ins C dx []))
end
end L2
namespace DL
open PySem PySem.Spec PyProof.Rows L2
/-! ### objects without fields, by the names of their classes -/
section
variable {X : Cx} {E : XK} {m : Md} {x : Str} {p pos apos : Pos} {e o : Expr} {es : List Expr} {fs : List Fn} {fo : Fn} {k : Nat} {ps : List Str} {fr : Bool} {mt : Str}
/-- a class of the text -/
structure ClsOk (K : PySem.W.Frag) (mg : Str → Option Value) (x : Str) : Prop where
  ex : ∃ C, Cls K C ∧ PySem.W.nsIn K mainGlobals x = some (some (.ref C)) ∧ mg x = some (.ref C)
def fMake0 (x : Str) : Fn := fun _ => .ok (.obj x)
/-- a method of a class: what it promises -/
structure MDf (P : Program) (w : World) (K : PySem.W.Frag) (mg : Str → Option Value) (base : Heap) (c m : Str) (k : Nat) (ps : List Str) (fr : Bool) (mm : List D → Ou D) : Prop where
  ex : ∃ C f fd, Cls K C ∧ PySem.W.nsIn K mainGlobals c = some (some (.ref C)) ∧ Meth K C m f ∧ FnOk P w K mg base CX0 k f fd ps (spD K fr ps.length mm) ∧ Binds K fd ps []
theorem MDf.mono {P : Program} {w : World} {K : PySem.W.Frag} {mg : Str → Option Value} {base : Heap} {c m : Str} {j k : Nat} {ps : List Str} {fr : Bool} {mm : List D → Ou D} (h : MDf P w K mg base c m j ps fr mm) (hj : j ≤ k) : MDf P w K mg base c m k ps fr mm := by
  obtain ⟨C, f, fd, h1, h2, h3, h4, h5⟩ := h.ex
  exact ⟨C, f, fd, h1, h2, h3, h4.mono hj, h5⟩
/-- which class has which -/
abbrev MTab := List (Str × (List D → Ou D))
def tbM (tb : MTab) : D → Option (List D → Ou D)
  | .obj c => (tb.find? fun z => z.1 == c).map (·.2)
  | _ => none
def fMeth (tb : MTab) (fo : Fn) (fs : List Fn) : Fn := fun δ => (fo δ).bind fun d => match tbM tb d with
  | some mm => (fArgs fs δ).bind fun ds => mm (d :: ds)
  | none => .bad
inductive MAll (P : Program) (w : World) (K : PySem.W.Frag) (mg : Str → Option Value) (base : Heap) (m : Str) (k : Nat) (n : Nat) (fr : Bool) : MTab → Prop where
  | nil : MAll P w K mg base m k n fr []
  | cons {c : Str} {ps : List Str} {mm : List D → Ou D} {tb : MTab} (h : MDf P w K mg base c m k ps fr mm) (hn : ps.length = n) (r : MAll P w K mg base m k n fr tb) : MAll P w K mg base m k n fr ((c, mm) :: tb)
theorem MAll.at {P : Program} {w : World} {K : PySem.W.Frag} {mg : Str → Option Value} {base : Heap} {m : Str} {k n : Nat} {fr : Bool} {tb : MTab} (h : MAll P w K mg base m k n fr tb) {c : Str} {z : Str × (List D → Ou D)} (hz : (tb.find? fun z => z.1 == c) = some z) :
    ∃ ps, MDf P w K mg base c m k ps fr z.2 ∧ ps.length = n := by
  induction h with
  | nil => cases hz
  | @cons c' ps mm tb h hn r ih =>
    rw [List.find?_cons] at hz
    by_cases e : (c' == c) = true
    · rw [e] at hz
      cases hz
      have : c' = c := by simpa using e
      subst this
      exact ⟨ps, h, hn⟩
    · have e' : (c' == c) = false := by simpa using e
      rw [e'] at hz
      exact ih hz
theorem Post.bOf' {c : Cn} {σ : St} {δ : DS} {H H' : Hp} {d : D} {v : V} {m : Md} (hm : notF m = true) (r : Rep c.K (BOf c σ δ m) H' d v) : Post c σ δ H m d v H' := by
  cases m with
  | W => exact r
  | S => exact r
  | F => simp [notF] at hm
theorem RtP.post {c : Cn} {σ : St} {δ : DS} {H H' : Hp} {d : D} {v : V} {m : Md} (hm : notF m = true) (r : RtP c.K (BOf c σ δ m) H false d v H') : Post c σ δ H m d v H' := Post.bOf' hm r
end
end DL
namespace DL
open PySem PySem.Spec PyProof.Rows L2
section
variable {X : Cx} {E : XK} {m : Md} {a b e : Expr} {fa fb fe : Fn} {pos p : Pos} {es : List Expr} {fs : List Fn} {fr : Rm} {F G : Sm} {st : Stmt} {x : Str}
/-! ### is True, is False -/
def isBl (k : Bool) : D → Bool
  | .bl k' => k' == k
  | _ => false
def gIsB : D → D → Ou D
  | d, .bl k => .ok (.bl (isBl k d))
  | _, _ => .bad
def gNotB : D → D → Ou D
  | d, .bl k => .ok (.bl (!isBl k d))
  | _, _ => .bad
/-! ### list(x) -/
def gListOf : D → Ou D
  | .lst ds => .ok (.lst ds)
  | .frl ds => .ok (.lst ds)
  | .tup ds => .ok (.lst ds)
  | _ => .bad
/-! ### an error that is raised: nothing is promised -/
def sBad : Sm := fun _ => .bad
/-! ### x in a list or tuple of plain items -/
def gIn (neg : Bool) : D → D → Ou D := fun x y => if isS x = true ∧ (its y).all isS = true ∧ (rk y = 1 ∨ rk y = 2) then .ok (.bl (let z := (its y).any fun d => eqV (toV d) (toV x); if neg then !z else z)) else .bad
theorem Reps.flat {K : PySem.W.Frag} {B : Addr → Prop} {H : Hp} : ∀ {ds : List D} {vs : List V}, Reps K B H ds vs → ds.all isS = true → vs = ds.map toV ∧ vs.all flatV = true
  | [], vs, r, _ => by
    simp only [Reps] at r
    subst r
    exact ⟨rfl, rfl⟩
  | d :: ds, vs, r, h => by
    simp only [Reps] at r
    obtain ⟨v, r', rfl, h1, h2⟩ := r
    simp only [List.all_cons, Bool.and_eq_true] at h
    obtain ⟨h3, h4⟩ := Reps.flat h2 h.2
    have h5 := Rep.toS h.1 h1
    subst h5
    refine ⟨by rw [h3]; rfl, ?_⟩
    rw [List.all_cons, h4, Bool.and_true]
    cases d <;> simp [isS] at h <;> rfl
/-! ### a part of a tuple -/
def fSlT (f : Fn) (lo hi : Option Fn) : Fn := fun δ => (f δ).bind fun d => (fPart lo δ).bind fun l => (fPart hi δ).bind fun u => match d with
  | .tup ds => if HT.sIx ds.length 0 l = 0 ∧ HT.sIx ds.length ds.length u = ds.length then .bad else .ok (.tup (cutD ds l u))
  | _ => .bad
/-! ### x = xs.pop() -/
def sPop (i j : Nat) : Sm := fun δ => match δ[i]? with
  | some (.own (.lst ds)) => (match ds[ds.length - 1]? with
    | some d => .ok (.nx ((δ.set i (.own (.lst ds.dropLast))).set j (.val d)))
    | none => .bad)
  | _ => .bad
theorem Reps.dropLast {K : PySem.W.Frag} {B : Addr → Prop} {H : Hp} {ds : List D} {vs : List V} (r : Reps K B H ds vs) : Reps K B H ds.dropLast vs.dropLast := by
  rw [List.dropLast_eq_take, List.dropLast_eq_take, r.length]
  exact r.take _
end
/-! ### a def whose mirror promises nothing -/
/-! ### a comprehension's names, by the scopes alone -/
def relab (sc0 scope : Scope) : List (Str × NameKind) := scope.names.map fun (n, k) => if (k == .free && sc0.kind == .function && sc0.names.lookup n == some .cell) then (n, .cell) else (n, k)
def cnOk (sc0 scope : Scope) (N0 N' : List Str) (k : Nat) (ix : List Nat) : Bool :=
  scope.names.all (fun y => y.2 != .cell) && (scope.kind == .function) && scope.names.all (fun y => y.2 != .local || scope.names.lookup y.1 == some .local) &&
  scope.names.all (fun y => y.2 != .free || (sc0.names.lookup y.1 == some .cell || sc0.names.lookup y.1 == some .free)) && N'.length == k + ix.length &&
  (List.range ix.length).all (fun j => match ix[j]?, N'[k + j]? with
    | some i, some x => N0[i]? == some x && (sc0.names.lookup x == some .cell || sc0.names.lookup x == some .free) && (relab sc0 scope).lookup x != some .local
    | _, _ => false)
theorem cnames {X : Cx} {scope : Scope} {N' : List Str} {k : Nat} {ix : List Nat} (sc0 : Scope) (N0 : List Str) (h : cnOk sc0 scope N0 N' k ix = true) (hs : X.env.scope = sc0 := by rfl) (hN : X.N = N0 := by rfl) : CNames X scope N' k ix := by
  unfold cnOk at h
  simp only [Bool.and_eq_true] at h
  obtain ⟨⟨⟨⟨⟨h1, h2⟩, h3⟩, h4⟩, h5⟩, h6⟩ := h
  subst hs; subst hN
  refine ⟨fun y hy => by simpa using List.all_eq_true.mp h1 y hy, by simpa using h2, fun y hy hk => ?_, fun y hy hk => ?_, by simpa using h5, fun j i x e1 e2 => ?_⟩
  · have := List.all_eq_true.mp h3 y hy
    rw [hk] at this
    simpa using this
  · have := List.all_eq_true.mp h4 y hy
    rw [hk] at this
    have z : List.lookup y.fst X.env.scope.names = some NameKind.cell ∨ List.lookup y.fst X.env.scope.names = some NameKind.free := by simpa using this
    exact z
  · have := List.all_eq_true.mp h6 j (List.mem_range.mpr (List.getElem?_eq_some_iff.mp e1).1)
    rw [e1, e2] at this
    simp only [Bool.and_eq_true, Bool.or_eq_true, beq_iff_eq, bne_iff_ne] at this
    exact ⟨this.1.1, this.1.2, this.2⟩
end DL
namespace DL
open PySem PySem.Spec PyProof.Rows L2
/-! ### dicts whose keys are ints and texts -/
def keyD : D → Option Key
  | .int i => some (.inl i)
  | .str x => some (.inr x)
  | _ => none
def dGet : List Key → List D → Key → Option D
  | k :: ks, d :: ds, q => if k = q then some d else dGet ks ds q
  | _, _, _ => none
def dSet : List Key → List D → Key → D → List D
  | k :: ks, d :: ds, q, v => (if k = q then v else d) :: dSet ks ds q v
  | _, ds, _, _ => ds
section
variable {K : PySem.W.Frag} {B : Addr → Prop} {H : Hp}
def dPutK (ks : List Key) (q : Key) : List Key := if (ks.any fun k => decide (k = q)) = true then ks else ks ++ [q]
def dPutV (ks : List Key) (ds : List D) (q : Key) (d : D) : List D := if (ks.any fun k => decide (k = q)) = true then dSet ks ds q d else ds ++ [d]
end
section
variable {X : Cx} {E : XK} {m : Md} {a b e o i : Expr} {fa fb fe fo fi : Fn} {pos p : Pos} {fr : Rm} {x : Str}
def fDic0 : Fn := fun _ => .ok (.dic [] [])
theorem DGet.r {H : Hp} {a : Addr} {kvs : List (Key × V)} {k : Key} (e : Rd H a (.dK kvs)) : DGet H a (kV k) (valV kvs k) := .inl ⟨kvs, k, e, rfl, rfl⟩
theorem Rd.same {H H' : Hp} {a : Addr} {u : HO} (r : Rd H a u) (e : Same H H') : Rd H' a u := r.elim (fun h => .inl (e _ _ h)) fun ⟨o, h⟩ => .inr ⟨o, e _ _ h⟩
def gDIx : D → D → Ou D
  | .dic ks ds, k => (match keyD k with
    | some q => (match dGet ks ds q with
      | some d => .ok d
      | none => .bad)
    | none => .bad)
  | _, _ => .bad
/-- an entry of a dict of one's own -/
def fIxD (j : Nat) (fk : Fn) : Fn := fun δ => match δ[j]? with
  | some (.own (.dic ks ds)) => (fk δ).bind fun k => gDIx (.dic ks ds) k
  | _ => .bad
def gDIn (neg : Bool) : D → D → Ou D
  | k, .dic ks ds => (match keyD k with
    | some q => if ds.length = ks.length then .ok (.bl (let z := (dGet ks ds q).isSome; if neg then !z else z)) else .bad
    | none => .bad)
  | _, _ => .bad
/-- d.get(k) -/
def fDGet1 (fo fe : Fn) : Fn := fun δ => (fo δ).bind fun d => match d with
  | .dic ks ds => (fe δ).bind fun k => (match keyD k with
    | some q => .ok ((dGet ks ds q).getD .non)
    | none => .bad)
  | _ => .bad
/-- d[k] = v -/
def sDPut (j : Nat) (fk fv : Fn) : Sm := fun δ => (fv δ).bind fun d => match δ[j]? with
  | some (.own (.dic ks ds)) => (fk δ).bind fun k => (match keyD k with
    | some q => if ks.length < sizeLine then .ok (.nx (δ.set j (.own (.dic (dPutK ks q) (dPutV ks ds q d))))) else .bad
    | none => .bad)
  | _ => .bad
/-- dict(d): a copy -/
def gDictOf : D → Ou D
  | .dic ks ds => .ok (.dic ks ds)
  | _ => .bad
/-- .. of a dict of one's own -/
def fDictO (j : Nat) : Fn := fun δ => match δ[j]? with
  | some (.own (.dic ks ds)) => .ok (.dic ks ds)
  | _ => .bad
end
end DL
namespace DL
open PySem PySem.Spec PyProof.Rows L2
/-! ### sorted: whole numbers, fewer than 64 -/
def ins (n : Int) : List Int → List Int
  | [] => [n]
  | m :: r => if n ≤ m then n :: m :: r else m :: ins n r
def isort : List Int → List Int
  | [] => []
  | n :: r => ins n (isort r)
theorem ins_perm (n : Int) : ∀ r : List Int, (ins n r).Perm (n :: r)
  | [] => List.Perm.refl _
  | m :: r => by
    unfold ins
    by_cases h : n ≤ m
    · rw [if_pos h]
    · rw [if_neg h]
      exact ((ins_perm n r).cons m).trans (List.Perm.swap n m r)
theorem isort_perm : ∀ r : List Int, (isort r).Perm r
  | [] => List.Perm.refl _
  | n :: r => (ins_perm n _).trans ((isort_perm r).cons n)
theorem ins_sorted (n : Int) : ∀ {r : List Int}, r.Pairwise (· ≤ ·) → (ins n r).Pairwise (· ≤ ·)
  | [], _ => by simp [ins]
  | m :: r, h => by
    unfold ins
    have h' := List.pairwise_cons.mp h
    by_cases hn : n ≤ m
    · rw [if_pos hn]
      refine List.pairwise_cons.mpr ⟨fun x hx => ?_, h⟩
      rcases List.mem_cons.mp hx with rfl | hx
      · exact hn
      · exact Int.le_trans hn (h'.1 x hx)
    · rw [if_neg hn]
      refine List.pairwise_cons.mpr ⟨fun x hx => ?_, ins_sorted n h'.2⟩
      rcases List.mem_cons.mp ((ins_perm n r).mem_iff.mp hx) with rfl | hx
      · lia
      · exact h'.1 x hx
theorem isort_sorted : ∀ r : List Int, (isort r).Pairwise (· ≤ ·)
  | [] => List.Pairwise.nil
  | n :: r => ins_sorted n (isort_sorted r)
theorem isort_uniq {a ns : List Int} (hp : a.Perm ns) (ha : a.Pairwise (· ≤ ·)) : a = isort ns := PySem.W.ksm_same (hp.trans (isort_perm ns).symm) ha (isort_sorted ns)
theorem vals_ints : ∀ {ns : List Int} {us : List Value}, Vals (ns.map V.int) us → IntsAre us ns
  | [], us, r => by cases r; exact .nil
  | n :: ns, us, r => by
    cases r with
    | cons h t =>
      obtain ⟨tk, rfl⟩ := h
      exact .cons n tk (vals_ints t)
section
variable {X : Cx} {E : XK} {m : Md} {a b e o i : Expr} {fa fb fe fo fi : Fn} {pos p : Pos} {fr : Rm} {x : Str}
def intK : Key → Option Int
  | .inl n => some n
  | _ => none
/-! the data -/
def intsD : List D → Option (List Int)
  | [] => some []
  | .int n :: r => (intsD r).map (n :: ·)
  | _ => none
def gSort (d : D) : Ou D := if rk d = 2 then (match intsD (its d) with
    | some ns => if ns.length < 64 then .ok (.lst ((isort ns).map D.int)) else .bad
    | none => .bad) else .bad
def keysI : List Key → Option (List Int)
  | [] => some []
  | .inl n :: r => (keysI r).map (n :: ·)
  | _ => none
theorem keysI_map (ns : List Int) : keysI (ns.map Sum.inl) = some ns := by
  induction ns with
  | nil => rfl
  | cons n r ih => simp [keysI, ih]
def gSortD : D → Ou D
  | .dic ks _ => (match keysI ks with
    | some ns => if ns.length < 64 then .ok (.lst ((isort ns).map D.int)) else .bad
    | none => .bad)
  | _ => .bad
end
end DL
namespace Tim
open PySem PyProof.Rows
/-! ### sorting up to 127 things in a state that comparing leaves as it is: what the run does, by ranks -/
def R (ρ : Keyed → Int) (xs : Array Keyed) (i : Nat) : Int := (xs[i]?.map ρ).getD 0
def Up (ρ : Keyed → Int) (xs : Array Keyed) (lo hi : Nat) : Prop := ∀ i j, lo ≤ i → i ≤ j → j < hi → R ρ xs i ≤ R ρ xs j
def Dn (ρ : Keyed → Int) (xs : Array Keyed) (lo hi : Nat) : Prop := ∀ i j, lo ≤ i → i ≤ j → j < hi → R ρ xs j ≤ R ρ xs i
/-- the front and the back stay -/
def Stays (xs ys : Array Keyed) (lo hi : Nat) : Prop := ∀ i, i < lo ∨ hi ≤ i → ys[i]? = xs[i]?
theorem Stays.refl (xs : Array Keyed) (lo hi : Nat) : Stays xs xs lo hi := fun _ _ => rfl
theorem Stays.trans {xs ys zs : Array Keyed} {lo hi : Nat} (h : Stays xs ys lo hi) (k : Stays ys zs lo hi) : Stays xs zs lo hi := fun i hi => (k i hi).trans (h i hi)
theorem R_of {ρ : Keyed → Int} {xs ys : Array Keyed} {i j : Nat} (h : xs[i]? = ys[j]?) : R ρ xs i = R ρ ys j := by unfold R; rw [h]
theorem Stays.mirror {xs : Array Keyed} {i j lo hi : Nat} (hj : j ≤ xs.size) (h1 : lo ≤ i) (h2 : j ≤ hi) : Stays xs (mirror xs i j ((j - i) / 2)) lo hi := fun k hk => by
  rw [getElem?_mirror_all hj, if_neg (by lia)]
/-- what holds all along -/
structure Bs (κ : SortKind) (a₀ : Array Keyed) (st : SortSt) : Prop where
  perm : (arrOf st).Perm a₀
  kind : kindOf st = κ
  fine : failedOf st = none
theorem Bs.size {κ : SortKind} {a₀ : Array Keyed} {st : SortSt} (h : Bs κ a₀ st) : (arrOf st).size = a₀.size := h.perm.size_eq
theorem Bs.put {κ : SortKind} {a₀ : Array Keyed} {st : SortSt} (h : Bs κ a₀ st) {xs : Array Keyed} (hp : xs.Perm (arrOf st)) : Bs κ a₀ (setArr st xs) := ⟨hp.trans h.perm, h.kind, h.fine⟩
theorem Bs.has {κ : SortKind} {a₀ : Array Keyed} {st : SortSt} (h : Bs κ a₀ st) {i : Nat} (hi : i < a₀.size) : ∃ x, (arrOf st)[i]? = some x ∧ x ∈ a₀.toList := by
  have hi' : i < (arrOf st).size := by rw [h.size]; exact hi
  exact ⟨(arrOf st)[i], getElem?_pos _ i hi', (Array.perm_iff_toList_perm.mp h.perm).mem_iff.mp (by simp)⟩
section
variable {prog : Program} {w : World} {A : Around} {E : Value → Shared → Prop} {s : Shared} {κ : SortKind} {ρ : Keyed → Int} {a₀ : Array Keyed}
/-- comparing two of the things tells whose rank is less, and nothing else comes of it -/
def Told (prog : Program) (w : World) (A : Around) (s : Shared) (κ : SortKind) (ρ : Keyed → Int) (a₀ : Array Keyed) : Prop :=
  ∀ x, x ∈ a₀.toList → ∀ y, y ∈ a₀.toList → ∀ (E : Value → Shared → Prop) (Q : Bool → Shared → Prop), Q (decide (ρ x < ρ y)) s → wpAny (model prog w) A (keyLt' κ x.1 y.1) Q E s
/-! #### a run -/
abbrev St1 := Option (Option Nat) × Nat
abbrev St2 := Option (Option Nat) × Nat × Nat
def upL (lo a m : Nat) : StateT SortSt Sem St1 := forIn [a:m] ((none, a) : St1) fun _ r => do
  let x ← ltAt' (lo + r.snd) (lo + r.snd - 1)
  match x with
  | some b => if b = true then pure (.done (none, r.snd)) else pure (.yield (none, r.snd + 1))
  | _ => pure (.done (some none, r.snd))
def endL (lo n m : Nat) : StateT SortSt Sem (Option Nat) := do
  reverseSlice' lo (lo + n)
  let r ← upL lo n m
  match r.fst with
  | some z => pure z
  | none => pure (some r.snd)
def dnL (lo n m : Nat) : StateT SortSt Sem St2 := forIn [n:m] ((none, n, 0) : St2) fun _ r => do
  let x ← ltAt' (lo + r.snd.fst) (lo + r.snd.fst - 1)
  match x with
  | some b =>
    if b = true then
      if r.snd.snd > 0 then do
        reverseSlice' (lo + r.snd.fst - (r.snd.snd + 1)) (lo + r.snd.fst)
        pure (.yield (none, r.snd.fst + 1, 0))
      else pure (.yield (none, r.snd.fst + 1, 0))
    else do
      let y ← ltAt' (lo + r.snd.fst - 1) (lo + r.snd.fst)
      match y with
      | some c => if c = true then pure (.done (none, r.snd.fst, r.snd.snd)) else pure (.yield (none, r.snd.fst + 1, r.snd.snd + 1))
      | _ => pure (.done (some none, r.snd.fst, r.snd.snd))
  | _ => pure (.done (some none, r.snd.fst, r.snd.snd))
def fallL (lo n m : Nat) : StateT SortSt Sem (Option Nat) := do
  liftM (rule "list.sort.descending-run")
  let r ← dnL lo (n + 1) m
  match r.fst with
  | some z => pure z
  | none =>
    if r.snd.snd > 0 then do
      reverseSlice' (lo + r.snd.fst - (r.snd.snd + 1)) (lo + r.snd.fst)
      endL lo r.snd.fst m
    else endL lo r.snd.fst m
def runL (lo m : Nat) : StateT SortSt Sem (Option Nat) := do
  let r ← upL lo 1 m
  match r.fst with
  | some z => pure z
  | none =>
    if (r.snd == m) = true then pure (some r.snd)
    else if r.snd > 1 then do
      let x ← ltAt' lo (lo + r.snd - 1)
      match x with
      | some b => if b = true then pure (some r.snd) else do
          reverseSlice' lo (lo + r.snd)
          fallL lo r.snd m
      | _ => pure none
    else fallL lo r.snd m
/-! #### insertion -/
end
/-! #### the place of a key among sorted things -/
def gallop' : Bool → Keyed → Array Keyed → Nat → Nat → Nat → StateT SortSt Sem (Option Nat) := sortPriv% PySem.Builtin.gallop
section
variable {prog : Program} {w : World} {A : Around} {E : Value → Shared → Prop} {s : Shared} {κ : SortKind} {ρ : Keyed → Int} {a₀ : Array Keyed}
/-- whether the thing at a place goes ahead of the key -/
def goes (ρ : Keyed → Int) (left : Bool) (key : Keyed) (arr : Array Keyed) (i : Nat) : Bool := if left then decide (R ρ arr i < ρ key) else !decide (ρ key < R ρ arr i)
def asks (left : Bool) (key : Keyed) (arr : Array Keyed) (base i : Nat) : StateT SortSt Sem (Option Bool) := do
  let x ← elem' arr (base + i)
  if left = true then lt' x key else do
    let b ← lt' key x
    pure (Option.map (fun x => !x) b)
/-- all of the array are of the things -/
def Among (a₀ arr : Array Keyed) : Prop := ∀ i, i < arr.size → ∃ x, arr[i]? = some x ∧ x ∈ a₀.toList
end
/-! #### two sorted rows put together (pure) -/
structure J (ρ : Keyed → Int) (a b out : Array Keyed) (ia ib : Nat) : Prop where
  perm : out.toList.Perm (a.toList.take ia ++ b.toList.take ib)
  srt : out.toList.Pairwise fun x y => ρ x ≤ ρ y
  ca : ∀ x, x ∈ out.toList → ∀ j, ia ≤ j → j < a.size → ρ x ≤ R ρ a j
  cb : ∀ x, x ∈ out.toList → ∀ j, ib ≤ j → j < b.size → ρ x ≤ R ρ b j
theorem J.swap {ρ : Keyed → Int} {a b out : Array Keyed} {ia ib : Nat} (h : J ρ a b out ia ib) : J ρ b a out ib ia := ⟨h.perm.trans List.perm_append_comm, h.srt, h.cb, h.ca⟩
theorem mem_part {a : Array Keyed} {i k : Nat} {x : Keyed} (h : x ∈ (a.toList.drop i).take k) : ∃ j, i ≤ j ∧ j < i + k ∧ j < a.size ∧ a[j]? = some x := by
  obtain ⟨n, hn⟩ := List.getElem?_of_mem h
  rw [List.getElem?_take] at hn
  by_cases c : n < k
  · rw [if_pos c, List.getElem?_drop, Array.getElem?_toList] at hn
    exact ⟨i + n, by lia, by lia, (Array.getElem?_eq_some_iff.mp hn).1, hn⟩
  · rw [if_neg c] at hn; cases hn
theorem R_some {ρ : Keyed → Int} {a : Array Keyed} {j : Nat} {x : Keyed} (h : a[j]? = some x) : R ρ a j = ρ x := by unfold R; rw [h]; rfl
theorem J.more {ρ : Keyed → Int} {a b out out' : Array Keyed} {ia ib k : Nat} (h : J ρ a b out ia ib) (ua : Up ρ a 0 a.size) (hk : ia + k ≤ a.size) (ho : out'.toList = out.toList ++ (a.toList.drop ia).take k)
    (hc : ∀ i j, ia ≤ i → i < ia + k → ib ≤ j → j < b.size → R ρ a i ≤ R ρ b j) : J ρ a b out' (ia + k) ib := by
  have e : a.toList.take (ia + k) = a.toList.take ia ++ (a.toList.drop ia).take k := List.take_add
  refine ⟨?_, ?_, fun x hx j j1 j2 => ?_, fun x hx j j1 j2 => ?_⟩
  · rw [ho, e]
    refine (h.perm.append_right _).trans ?_
    rw [List.append_assoc, List.append_assoc]
    exact List.Perm.append_left _ List.perm_append_comm
  · rw [ho]
    refine List.pairwise_append.mpr ⟨h.srt, ?_, fun x hx y hy => ?_⟩
    · rw [List.pairwise_iff_getElem]
      intro i j hi hj hij
      have hi' : ((a.toList.drop ia).take k)[i]? = some ((a.toList.drop ia).take k)[i] := List.getElem?_eq_getElem hi
      have hj' : ((a.toList.drop ia).take k)[j]? = some ((a.toList.drop ia).take k)[j] := List.getElem?_eq_getElem hj
      have l1 : i < k := by simp at hi; lia
      have l2 : j < k := by simp at hj; lia
      rw [List.getElem?_take, if_pos l1, List.getElem?_drop, Array.getElem?_toList] at hi'
      rw [List.getElem?_take, if_pos l2, List.getElem?_drop, Array.getElem?_toList] at hj'
      rw [← R_some (ρ := ρ) hi', ← R_some (ρ := ρ) hj']
      exact ua _ _ (Nat.zero_le _) (by lia) (by lia)
    · obtain ⟨j, j1, j2, j3, ej⟩ := mem_part hy
      rw [← R_some (ρ := ρ) ej]
      exact h.ca x hx j j1 j3
  · rw [ho] at hx
    rcases List.mem_append.mp hx with hx | hx
    · exact h.ca x hx j (by lia) j2
    · obtain ⟨i, i1, i2, i3, ei⟩ := mem_part hx
      rw [← R_some (ρ := ρ) ei]
      exact ua _ _ (Nat.zero_le _) (by lia) j2
  · rw [ho] at hx
    rcases List.mem_append.mp hx with hx | hx
    · exact h.cb x hx j j1 j2
    · obtain ⟨i, i1, i2, i3, ei⟩ := mem_part hx
      rw [← R_some (ρ := ρ) ei]
      exact hc i j i1 i2 j1 j2
theorem part_toList (a : Array Keyed) (i j : Nat) : (a.extract i j).toList = (a.toList.drop i).take (j - i) := by
  rw [Array.toList_extract, List.extract_eq_take_drop]
theorem one_part {a : Array Keyed} {i : Nat} {x : Keyed} (h : a[i]? = some x) : (a.toList.drop i).take 1 = [x] := by
  obtain ⟨hi, e⟩ := Array.getElem?_eq_some_iff.mp h
  rw [List.drop_eq_getElem_cons (by simpa using hi)]
  simp [e]
theorem J.push {ρ : Keyed → Int} {a b out : Array Keyed} {ia ib : Nat} {x : Keyed} (h : J ρ a b out ia ib) (ua : Up ρ a 0 a.size) (hx : a[ia]? = some x) (hc : ∀ j, ib ≤ j → j < b.size → ρ x ≤ R ρ b j) : J ρ a b (out.push x) (ia + 1) ib := by
  have hi := (Array.getElem?_eq_some_iff.mp hx).1
  refine h.more ua hi (by rw [one_part hx, Array.toList_push]) fun i j i1 i2 j1 j2 => ?_
  obtain rfl : i = ia := by lia
  rw [R_some hx]
  exact hc j j1 j2
theorem J.run {ρ : Keyed → Int} {a b out : Array Keyed} {ia ib k : Nat} (h : J ρ a b out ia ib) (ua : Up ρ a 0 a.size) (hk : ia + k ≤ a.size) (hc : ∀ i j, ia ≤ i → i < ia + k → ib ≤ j → j < b.size → R ρ a i ≤ R ρ b j) : J ρ a b (out ++ a.extract ia (ia + k)) (ia + k) ib :=
  h.more ua hk (by rw [Array.toList_append, part_toList]; congr 2; lia) hc
/-- both are in it, and it is sorted -/
def Both (ρ : Keyed → Int) (a b out : Array Keyed) : Prop := out.toList.Perm (a.toList ++ b.toList) ∧ out.toList.Pairwise fun x y => ρ x ≤ ρ y
theorem J.all {ρ : Keyed → Int} {a b out : Array Keyed} {ia ib : Nat} (h : J ρ a b out ia ib) (ha : a.size ≤ ia) (hb : b.size ≤ ib) : Both ρ a b out := by
  refine ⟨?_, h.srt⟩
  have p := h.perm
  rw [List.take_of_length_le (by simpa using ha), List.take_of_length_le (by simpa using hb)] at p
  exact p
theorem J.last {ρ : Keyed → Int} {a b out : Array Keyed} {ia ib : Nat} (h : J ρ a b out ia ib) (ua : Up ρ a 0 a.size) (ub : Up ρ b 0 b.size) (ha : ia + 1 = a.size) (hb : ib ≤ b.size) (hl : ∀ j, j < b.size → R ρ b j ≤ R ρ a (a.size - 1)) :
    Both ρ a b (out ++ b.extract ib b.size ++ a.extract ia a.size) := by
  have k := (h.swap.run (k := b.size - ib) ub (by lia) fun i j i1 i2 j1 j2 => by
    rw [show j = a.size - 1 by lia]
    exact hl i (by lia)).swap
  rw [show ib + (b.size - ib) = b.size by lia] at k
  have k2 := k.run (k := a.size - ia) ua (by lia) fun i j i1 i2 j1 j2 => by lia
  rw [show ia + (a.size - ia) = a.size by lia] at k2
  exact k2.all (Nat.le_refl _) (Nat.le_refl _)
/-! #### two sorted rows put together, from the front -/
def mergeLo' : Array Keyed → Array Keyed → StateT SortSt Sem (Array Keyed) := sortPriv% PySem.Builtin.mergeLo
def setMinGallop' : Nat → StateT SortSt Sem Unit := sortPriv% PySem.Builtin.setMinGallop
abbrev setG (st : SortSt) (g : Nat) : SortSt := SortSt.mk' (kindOf st) (arrOf st) (pendingOf st) g (failedOf st)
section
variable {prog : Program} {w : World} {A : Around} {E : Value → Shared → Prop} {s : Shared} {κ : SortKind} {ρ : Keyed → Int} {a₀ : Array Keyed}
theorem Among.get {a : Array Keyed} (m : Among a₀ a) {i : Nat} (hi : i < a.size) : ∃ x, a[i]? = some x ∧ x ∈ a₀.toList ∧ R ρ a i = ρ x := by
  obtain ⟨x, ex, mx⟩ := m i hi
  exact ⟨x, ex, mx, R_some ex⟩
/-- on the way: some of both are still to come -/
structure Way (ρ : Keyed → Int) (a b out : Array Keyed) (ia ib n : Nat) : Prop where
  j : J ρ a b out ia ib
  ha : ia + 1 < a.size
  hb : ib < b.size
  hn : n ≤ ia + ib
/-- what a turn may end with -/
def Step (ρ : Keyed → Int) (a b : Array Keyed) (st : SortSt) (n : Nat) : ForInStep (Option (Array Keyed) × Array Keyed × Nat × Nat × Nat × Nat × Nat) → SortSt → Prop
  | .done c, st' => ∃ g, st' = setG st g ∧ ((∃ r z, c = (some r, z) ∧ Both ρ a b r) ∨ ∃ out ia ib mg ac bc, c = (none, out, ia, ib, mg, ac, bc) ∧ Way ρ a b out ia ib n)
  | .yield c, st' => ∃ g out ia ib mg ac bc, st' = setG st g ∧ c = (none, out, ia, ib, mg, ac, bc) ∧ Way ρ a b out ia ib n
theorem Up.part {xs : Array Keyed} {lo hi lo' hi' : Nat} (h : Up ρ xs lo hi) (h1 : lo ≤ lo') (h2 : hi' ≤ hi) : Up ρ xs lo' hi' := fun i j q1 q2 q3 => h i j (by lia) q2 (by lia)
end
/-! #### .. from the back -/
structure H (ρ : Keyed → Int) (a b out : Array Keyed) (na nb : Nat) : Prop where
  perm : out.toList.Perm (a.toList.drop na ++ b.toList.drop nb)
  srt : out.toList.Pairwise fun x y => ρ y ≤ ρ x
  ca : ∀ x, x ∈ out.toList → ∀ j, j < na → R ρ a j ≤ ρ x
  cb : ∀ x, x ∈ out.toList → ∀ j, j < nb → R ρ b j ≤ ρ x
theorem H.swap {ρ : Keyed → Int} {a b out : Array Keyed} {na nb : Nat} (h : H ρ a b out na nb) : H ρ b a out nb na := ⟨h.perm.trans List.perm_append_comm, h.srt, h.cb, h.ca⟩
theorem H.more {ρ : Keyed → Int} {a b out out' : Array Keyed} {na nb m : Nat} (h : H ρ a b out na nb) (ua : Up ρ a 0 a.size) (hm : m ≤ na) (hz : na ≤ a.size) (ho : out'.toList = out.toList ++ ((a.toList.drop m).take (na - m)).reverse)
    (hc : ∀ i j, m ≤ i → i < na → j < nb → R ρ b j ≤ R ρ a i) : H ρ a b out' m nb := by
  have e : a.toList.drop m = (a.toList.drop m).take (na - m) ++ a.toList.drop na := by
    have := (List.take_append_drop (na - m) (a.toList.drop m)).symm
    rwa [List.drop_drop, show m + (na - m) = na by lia] at this
  refine ⟨?_, ?_, fun x hx j j1 => ?_, fun x hx j j1 => ?_⟩
  · rw [ho]
    have p1 := ((a.toList.drop m).take (na - m)).reverse_perm
    refine (h.perm.append_right _).trans (List.perm_append_comm.trans ((p1.append_right _).trans ?_))
    rw [← List.append_assoc, ← e]
  · rw [ho]
    refine List.pairwise_append.mpr ⟨h.srt, ?_, fun x hx y hy => ?_⟩
    · rw [List.pairwise_reverse, List.pairwise_iff_getElem]
      intro i j hi hj hij
      have hi' : ((a.toList.drop m).take (na - m))[i]? = some ((a.toList.drop m).take (na - m))[i] := List.getElem?_eq_getElem hi
      have hj' : ((a.toList.drop m).take (na - m))[j]? = some ((a.toList.drop m).take (na - m))[j] := List.getElem?_eq_getElem hj
      have l1 : i < na - m := by simp at hi; lia
      have l2 : j < na - m := by simp at hj; lia
      rw [List.getElem?_take, if_pos l1, List.getElem?_drop, Array.getElem?_toList] at hi'
      rw [List.getElem?_take, if_pos l2, List.getElem?_drop, Array.getElem?_toList] at hj'
      rw [← R_some (ρ := ρ) hi', ← R_some (ρ := ρ) hj']
      exact ua _ _ (Nat.zero_le _) (by lia) (by lia)
    · obtain ⟨j, j1, j2, j3, ej⟩ := mem_part (List.mem_reverse.mp hy)
      rw [← R_some (ρ := ρ) ej]
      exact h.ca x hx j (by lia)
  · rw [ho] at hx
    rcases List.mem_append.mp hx with hx | hx
    · exact h.ca x hx j (by lia)
    · obtain ⟨i, i1, i2, i3, ei⟩ := mem_part (List.mem_reverse.mp hx)
      rw [← R_some (ρ := ρ) ei]
      exact ua _ _ (Nat.zero_le _) (by lia) i3
  · rw [ho] at hx
    rcases List.mem_append.mp hx with hx | hx
    · exact h.cb x hx j j1
    · obtain ⟨i, i1, i2, i3, ei⟩ := mem_part (List.mem_reverse.mp hx)
      rw [← R_some (ρ := ρ) ei]
      exact hc i j i1 (by lia) j1
theorem H.push {ρ : Keyed → Int} {a b out : Array Keyed} {na nb : Nat} {x : Keyed} (h : H ρ a b out na nb) (ua : Up ρ a 0 a.size) (h1 : 1 ≤ na) (hz : na ≤ a.size) (hx : a[na - 1]? = some x) (hc : ∀ j, j < nb → R ρ b j ≤ ρ x) : H ρ a b (out.push x) (na - 1) nb := by
  refine h.more ua (by lia) hz (by rw [show na - (na - 1) = 1 by lia, one_part hx, Array.toList_push]; rfl) fun i j i1 i2 j1 => ?_
  obtain rfl : i = na - 1 := by lia
  rw [R_some hx]
  exact hc j j1
theorem H.run {ρ : Keyed → Int} {a b out : Array Keyed} {na nb m : Nat} (h : H ρ a b out na nb) (ua : Up ρ a 0 a.size) (hm : m ≤ na) (hz : na ≤ a.size) (hc : ∀ i j, m ≤ i → i < na → j < nb → R ρ b j ≤ R ρ a i) : H ρ a b (out ++ (a.extract m na).reverse) m nb :=
  h.more ua hm hz (by rw [Array.toList_append, Array.toList_reverse, part_toList]) hc
theorem H.all {ρ : Keyed → Int} {a b out : Array Keyed} (h : H ρ a b out 0 0) : Both ρ a b out.reverse := by
  refine ⟨?_, ?_⟩
  · rw [Array.toList_reverse]
    exact (List.reverse_perm _).trans h.perm
  · rw [Array.toList_reverse, List.pairwise_reverse]
    exact h.srt
theorem H.first {ρ : Keyed → Int} {a b out : Array Keyed} {na nb : Nat} (h : H ρ a b out na nb) (ua : Up ρ a 0 a.size) (ub : Up ρ b 0 b.size) (hb : nb = 1) (hz : nb ≤ b.size) (ha : na ≤ a.size) (hf : ∀ j, j < a.size → R ρ b 0 ≤ R ρ a j) :
    Both ρ a b (b.extract 0 nb ++ a.extract 0 na ++ out.reverse) := by
  have k := h.run (m := 0) ua (Nat.zero_le _) ha fun i j i1 i2 j1 => by
    rw [show j = 0 by lia]
    exact hf i (by lia)
  have k2 := (k.swap.run (m := 0) ub (Nat.zero_le _) hz fun i j i1 i2 j1 => by lia).swap
  have q := k2.all
  have e : (out ++ (a.extract 0 na).reverse ++ (b.extract 0 nb).reverse).reverse = b.extract 0 nb ++ a.extract 0 na ++ out.reverse := by
    apply Array.toList_inj.mp
    simp
  rw [e] at q
  exact q
def mergeHi' : Array Keyed → Array Keyed → StateT SortSt Sem (Array Keyed) := sortPriv% PySem.Builtin.mergeHi
structure WayH (ρ : Keyed → Int) (a b out : Array Keyed) (na nb n : Nat) : Prop where
  j : H ρ a b out na nb
  ha : 1 ≤ na
  za : na ≤ a.size
  hb : 2 ≤ nb
  zb : nb ≤ b.size
  hn : n + na + nb ≤ a.size + b.size
def StepH (ρ : Keyed → Int) (a b : Array Keyed) (st : SortSt) (n : Nat) : ForInStep (Option (Array Keyed) × Nat × Nat × Array Keyed × Nat × Nat × Nat) → SortSt → Prop
  | .done c, st' => ∃ g, st' = setG st g ∧ ((∃ r z, c = (some r, z) ∧ Both ρ a b r) ∨ ∃ out na nb mg ac bc, c = (none, na, nb, out, mg, ac, bc) ∧ WayH ρ a b out na nb n)
  | .yield c, st' => ∃ g out na nb mg ac bc, st' = setG st g ∧ c = (none, na, nb, out, mg, ac, bc) ∧ WayH ρ a b out na nb n
section
variable {prog : Program} {w : World} {A : Around} {E : Value → Shared → Prop} {s : Shared} {κ : SortKind} {ρ : Keyed → Int} {a₀ : Array Keyed}
end
/-! #### one putting together -/
theorem up_of {ρ : Keyed → Int} {xs : Array Keyed} (h : xs.toList.Pairwise fun x y => ρ x ≤ ρ y) : Up ρ xs 0 xs.size := by
  intro i j _ hij hj
  by_cases c : i = j
  · rw [c]; exact Int.le_refl _
  · have := List.pairwise_iff_getElem.mp h i j (by simp; lia) (by simp; lia) (by lia)
    simp only [Array.getElem_toList] at this
    rw [R_some (Array.getElem?_eq_getElem (show i < xs.size by lia)), R_some (Array.getElem?_eq_getElem hj)]
    exact this
theorem of_up {ρ : Keyed → Int} {xs : Array Keyed} {lo k : Nat} (u : Up ρ xs lo (lo + k)) (hz : lo + k ≤ xs.size) : ((xs.toList.drop lo).take k).Pairwise fun x y => ρ x ≤ ρ y := by
  rw [List.pairwise_iff_getElem]
  intro i j hi hj hij
  have hi' : ((xs.toList.drop lo).take k)[i]? = some ((xs.toList.drop lo).take k)[i] := List.getElem?_eq_getElem hi
  have hj' : ((xs.toList.drop lo).take k)[j]? = some ((xs.toList.drop lo).take k)[j] := List.getElem?_eq_getElem hj
  have l1 : i < k := by simp at hi; lia
  have l2 : j < k := by simp at hj; lia
  rw [List.getElem?_take, if_pos l1, List.getElem?_drop, Array.getElem?_toList] at hi'
  rw [List.getElem?_take, if_pos l2, List.getElem?_drop, Array.getElem?_toList] at hj'
  rw [← R_some (ρ := ρ) hi', ← R_some (ρ := ρ) hj']
  exact u _ _ (by lia) (by lia) (by lia)
theorem get_part {xs : Array Keyed} {i j k : Nat} (hj : j ≤ xs.size) (hk : k < j - i) : (xs.extract i j)[k]? = xs[i + k]? := by
  rw [Array.getElem?_extract, if_pos (by rw [Nat.min_eq_left hj]; exact hk)]
theorem size_part {xs : Array Keyed} {i j : Nat} (hj : j ≤ xs.size) : (xs.extract i j).size = j - i := by
  rw [Array.size_extract, Nat.min_eq_left hj]
theorem R_part {ρ : Keyed → Int} {xs : Array Keyed} {i j k : Nat} (hj : j ≤ xs.size) (hk : k < j - i) : R ρ (xs.extract i j) k = R ρ xs (i + k) := R_of (get_part hj hk)
theorem Up.cut {ρ : Keyed → Int} {xs : Array Keyed} {i j : Nat} (u : Up ρ xs i j) (hj : j ≤ xs.size) : Up ρ (xs.extract i j) 0 (xs.extract i j).size := by
  intro p q _ h1 h2
  rw [size_part hj] at h2
  rw [R_part hj (by lia), R_part hj h2]
  exact u _ _ (by lia) (by lia) (by lia)
theorem Among.of {κ : SortKind} {a₀ : Array Keyed} {st : SortSt} (h : Bs κ a₀ st) : Among a₀ (arrOf st) := fun i hi => h.has (by rw [← h.size]; exact hi)
theorem Among.cut {a₀ xs : Array Keyed} (m : Among a₀ xs) {i j : Nat} (hj : j ≤ xs.size) : Among a₀ (xs.extract i j) := fun k hk => by
  rw [size_part hj] at hk
  rw [get_part hj hk]
  exact m _ (by lia)
/-- the merged part laid back where both parts were -/
theorem laid {ρ : Keyed → Int} {xs out : Array Keyed} {k m n : Nat} (u1 : Up ρ xs 0 m) (u2 : Up ρ xs m xs.size) (hk : k ≤ m) (hn : m + n ≤ xs.size) (hk2 : 0 < n) (h : Both ρ (xs.extract k m) (xs.extract m (m + n)) out)
    (f1 : ∀ i, i < k → R ρ xs i ≤ R ρ xs m) (f2 : ∀ i, i < m → ∀ j, m + n ≤ j → j < xs.size → R ρ xs i ≤ R ρ xs j) :
    ∀ ys : Array Keyed, ys.toList = xs.toList.take k ++ out.toList ++ xs.toList.drop (k + out.toList.length) → ys.Perm xs ∧ Up ρ ys 0 ys.size := by
  obtain ⟨p, so⟩ := h
  have hlen := p.length_eq
  rw [List.length_append, Array.length_toList, Array.length_toList, Array.length_toList, size_part (Nat.le_trans (Nat.le_add_right m n) hn), size_part hn, Nat.add_sub_cancel_left] at hlen
  rw [part_toList, part_toList] at p
  rw [← Array.length_toList] at hlen
  have hkm : k + (m - k + n) = m + n := by rw [← Nat.add_assoc, Nat.add_sub_cancel' hk]
  intro ys hy
  rw [hlen, hkm] at hy
  have mem : ∀ x, x ∈ out.toList → ∃ j, k ≤ j ∧ j < m + n ∧ xs[j]? = some x := fun x hx => by
    rcases List.mem_append.mp (p.mem_iff.mp hx) with q | q
    · obtain ⟨j, j1, j2, _, e⟩ := mem_part q
      exact ⟨j, j1, by lia, e⟩
    · obtain ⟨j, j1, j2, _, e⟩ := mem_part q
      exact ⟨j, by lia, by lia, e⟩
  have memD : ∀ x, x ∈ xs.toList.drop (m + n) → ∃ j, m + n ≤ j ∧ j < xs.size ∧ xs[j]? = some x := fun x hx => by
    obtain ⟨i, hi⟩ := List.getElem?_of_mem hx
    rw [List.getElem?_drop, Array.getElem?_toList] at hi
    exact ⟨m + n + i, by lia, (Array.getElem?_eq_some_iff.mp hi).1, hi⟩
  have memT : ∀ x, x ∈ xs.toList.take k → ∃ j, j < k ∧ xs[j]? = some x := fun x hx => by
    have hx' : x ∈ (xs.toList.drop 0).take k := by simpa using hx
    obtain ⟨j, j1, j2, _, e⟩ := mem_part hx'
    exact ⟨j, by lia, e⟩
  constructor
  · rw [Array.perm_iff_toList_perm, hy]
    have e : xs.toList = xs.toList.take k ++ ((xs.toList.drop k).take (m - k) ++ (xs.toList.drop m).take (m + n - m)) ++ xs.toList.drop (m + n) := by
      have e1 : xs.toList.drop k = (xs.toList.drop k).take (m - k) ++ xs.toList.drop m := by
        have := (List.take_append_drop (m - k) (xs.toList.drop k)).symm
        rwa [List.drop_drop, show k + (m - k) = m by lia] at this
      have e2 : xs.toList.drop m = (xs.toList.drop m).take (m + n - m) ++ xs.toList.drop (m + n) := by
        have := (List.take_append_drop (m + n - m) (xs.toList.drop m)).symm
        rwa [List.drop_drop, show m + (m + n - m) = m + n by lia] at this
      calc xs.toList = xs.toList.take k ++ xs.toList.drop k := (List.take_append_drop k xs.toList).symm
        _ = xs.toList.take k ++ ((xs.toList.drop k).take (m - k) ++ xs.toList.drop m) := by rw [← e1]
        _ = xs.toList.take k ++ ((xs.toList.drop k).take (m - k) ++ ((xs.toList.drop m).take (m + n - m) ++ xs.toList.drop (m + n))) := by rw [← e2]
        _ = _ := by simp only [List.append_assoc]
    refine List.Perm.trans ?_ (List.Perm.of_eq e.symm)
    exact (List.Perm.append_left _ p).append_right _
  · apply up_of
    rw [hy]
    refine List.pairwise_append.mpr ⟨List.pairwise_append.mpr ⟨?_, so, fun x hx y hy => ?_⟩, ?_, fun x hx y hy => ?_⟩
    · have := of_up (lo := 0) (k := k) (u1.part (Nat.le_refl _) (by lia)) (by lia)
      simpa using this
    · obtain ⟨i, i1, ei⟩ := memT x hx
      obtain ⟨j, j1, j2, ej⟩ := mem y hy
      rw [← R_some (ρ := ρ) ei, ← R_some (ρ := ρ) ej]
      by_cases c : j < m
      · exact u1 i j (Nat.zero_le _) (by lia) c
      · exact Int.le_trans (f1 i i1) (u2 m j (Nat.le_refl _) (by lia) (by lia))
    · have := of_up (lo := m + n) (k := xs.size - (m + n)) (u2.part (by lia) (by lia)) (by lia)
      rwa [List.take_of_length_le (by simp)] at this
    · obtain ⟨j, j1, j2, ej⟩ := memD y hy
      rw [← R_some (ρ := ρ) ej]
      rcases List.mem_append.mp hx with q | q
      · obtain ⟨i, i1, ei⟩ := memT x q
        rw [← R_some (ρ := ρ) ei]
        exact f2 i (by lia) j j1 j2
      · obtain ⟨i, i1, i2, ei⟩ := mem x q
        rw [← R_some (ρ := ρ) ei]
        by_cases c : i < m
        · exact f2 i c j j1 j2
        · exact u2 i j (by lia) (by lia) j2
section
variable {prog : Program} {w : World} {A : Around} {E : Value → Shared → Prop} {s : Shared} {κ : SortKind} {ρ : Keyed → Int} {a₀ : Array Keyed}
/-- the runs that were found: none, one that is whole, one, both -/
inductive Runs (ρ : Keyed → Int) (a₀ : Array Keyed) (st : SortSt) : Nat → Nat → Prop
  | none (h : pendingOf st = #[]) : Runs ρ a₀ st 0 0
  | one (n : Nat) (h : pendingOf st = #[(0, n, 0)]) (h1 : 1 ≤ n) (h2 : n ≤ a₀.size) (hm : minRun' a₀.size a₀.size 0 ≤ n) (u : Up ρ (arrOf st) 0 n) : Runs ρ a₀ st 1 n
  | both (n p : Nat) (x : Nat) (h : pendingOf st = #[(0, n, p), (n, a₀.size - n, 0)]) (h1 : 1 ≤ n) (h2 : n < a₀.size) (u : Up ρ (arrOf st) 0 n) (u2 : Up ρ (arrOf st) n a₀.size) (hx : 2 ≤ x) : Runs ρ a₀ st x a₀.size
def StepR (κ : SortKind) (ρ : Keyed → Int) (a₀ : Array Keyed) (x : Nat) : ForInStep (Option Unit × Nat) → SortSt → Prop
  | .done c', st' => c' = (none, a₀.size) ∧ Bs κ a₀ st' ∧ ∃ x, Runs ρ a₀ st' x a₀.size
  | .yield c', st' => ∃ lo, c' = (none, lo) ∧ Bs κ a₀ st' ∧ Runs ρ a₀ st' (x + 1) lo
end
/-! #### list.sort and sorted -/
section
variable {prog : Program} {w : World} {A : Around} {E : Value → Shared → Prop} {s : Shared} {κ : SortKind} {ρ : Keyed → Int}
/-- the heap in which things are compared -/
def during (h : Heap) (a : Addr) (vs : List Value) : Heap := ((h.update a (Obj.mapSeq fun _ => #[])).push (seqObj "tuple" vs.toArray 0)).push (seqObj "list" #[] 0)
/-- the heap after the things have been collected, ahead of the sorting -/
def gathered (h : Heap) (vs : List Value) : Heap := ((h.push (seqObj "list" #[] 0)).update h.objs.size (Obj.mapSeq (· ++ vs.toArray))).push (seqObj "list" vs.toArray 0)
/-! ints -/
end
end Tim
namespace DL
open PySem PySem.Spec PyProof.Rows L2
/-! ### sorted(x) of up to 127 numbers -/
section
variable {X : Cx} {E : XK} {m : Md} {a b e o i : Expr} {fa fb fe fo fi : Fn} {pos p : Pos} {fr : Rm} {x : Str}
def gSortB (d : D) : Ou D := if rk d = 2 then (match intsD (its d) with
    | some ns => if ns.length < 128 then .ok (.lst ((isort ns).map D.int)) else .bad
    | none => .bad) else .bad
def gSortDB : D → Ou D
  | .dic ks _ => (match keysI ks with
    | some ns => if ns.length < 128 then .ok (.lst ((isort ns).map D.int)) else .bad
    | none => .bad)
  | _ => .bad
end
end DL
namespace DL
open PySem PySem.Spec PyProof.Rows L2
/-! ### for .. in reversed(list) -/
def Itv (K : PySem.W.Frag) (a : Addr) (n : Nat) : It :=
  ⟨fun i H => ∃ xs x, SqL K H a xs ∧ xs.length = n ∧ i < n ∧ xs[n - 1 - i]? = some x, fun i H x H' => H' = H ∧ ∀ xs, SqL K H a xs → xs[n - 1 - i]? = some x, fun i _ => i = n⟩
def iRev (K : PySem.W.Frag) (ta : TA) : TI := fun σ H R => ta σ H fun vs H1 => ∃ a xs, vs = [.ref a] ∧ SqL K H1 a xs ∧ R (Itv K a xs.length) H1
section
variable {X : Cx} {E : XK} {tg : Expr} {e : Expr} {fl : Fn} {F : Sm} {fr : Rm} {p pos rp : Pos}
def sForV (fl : Fn) (g : D → DS → Ou DS) (body : Sm) : Sm := fun δ => (fl δ).bind fun d => match d with
  | .lst ds => forL g body ds.reverse δ
  | .frl ds => forL g body ds.reverse δ
  | _ => .bad
def gNm3 (i j l : Nat) : D → DS → Ou DS := fun d δ => match d with
  | .tup [x, y, z] => .ok (((δ.set i (.val x)).set j (.val y)).set l (.val z))
  | _ => .bad
/-! ### range(a, b, c), c above nought -/
def Its (lo st : Int) (n : Nat) : It := ⟨fun i _ => i < n, fun i H x H' => H' = H ∧ x = .int (lo + i * st), fun i _ => n ≤ i⟩
def stepN (a b c : Int) : Nat := if a < b then ((b - a - 1) / c + 1).toNat else 0
def rOk3 (a b c : Int) : Bool := decide (-1000000000 ≤ a ∧ a ≤ 1000000000 ∧ -1000000000 ≤ b ∧ b ≤ 1000000000 ∧ 0 < c ∧ c ≤ 1000000000)
def iRng3 (ta : TA) : TI := fun σ H R => ta σ H fun vs H1 => ∃ i j k : Int, vs = [.int i, .int j, .int k] ∧ rOk3 i j k = true ∧ R (Its i k (stepN i j k)) H1
def rngS (lo st : Int) (n : Nat) : List D := (List.range n).map fun (k : Nat) => D.int (lo + (k : Int) * st)
def sRng3 (fs : List Fn) (g : D → DS → Ou DS) (body : Sm) : Sm := fun δ => (fArgs fs δ).bind fun ds => match ds with
  | [.int i, .int j, .int k] => if rOk3 i j k = true then forL g body (rngS i k (stepN i j k)) δ else .bad
  | _ => .bad
/-! ### list(d), the keys -/
def kD : Key → D
  | .inl n => .int n
  | .inr x => .str x
def gListD : D → Ou D
  | .dic ks _ => .ok (.lst (ks.map kD))
  | _ => .bad
end
end DL
namespace DL
open PySem PySem.Spec PyProof.Rows L2
/-! ### list(reversed(x)) -/
section
variable {prog : Program} {w : World} {A : Around} {E : Value → Shared → Prop} {s : Shared} {I l S : Addr} {items : Array Value}
end
end DL
namespace DL
open PySem PySem.Spec PyProof.Rows L2
section
variable {X : Cx} {E : XK} {m : Md} {e : Expr} {fe : Fn} {p p2 pos pos2 : Pos}
def gRevOf : D → Ou D
  | .lst ds => .ok (.lst ds.reverse)
  | .frl ds => .ok (.lst ds.reverse)
  | _ => .bad
def tRevL (K : PySem.W.Frag) (ta : TA) : TE := fun σ H Q => ta σ H fun vs H1 => ∃ a xs, vs = [.ref a] ∧ SqL K H1 a xs ∧ ∀ l, H1 l = none → Q (.ref l) (upd H1 l (.lst xs.reverse))
end
end DL
namespace DL
open PySem PySem.Spec PyProof.Rows L2
/-! ### d.pop(k), d a dict of one's own -/
def dDropK (ks : List Key) (q : Key) : List Key := ks.filter fun k => decide (k ≠ q)
def dDropV : List Key → List D → Key → List D
  | k :: ks, d :: ds, q => if k = q then dDropV ks ds q else d :: dDropV ks ds q
  | _, _, _ => []
section
variable {X : Cx} {E : XK} {e : Expr} {fe : Fn} {fr : Rm} {x : Str} {pos : Pos}
def sDPop (j : Nat) (fk : Fn) : Sm := fun δ => match δ[j]? with
  | some (.own (.dic ks ds)) => (fk δ).bind fun k => match keyD k with
    | some q => (match dGet ks ds q with
      | some _ => .ok (.nx (δ.set j (.own (.dic (dDropK ks q) (dDropV ks ds q)))))
      | none => .bad)
    | none => .bad
  | _ => .bad
end
end DL
namespace DL
open PySem PySem.Spec PyProof.Rows L2
/-! ### a slice of a text -/
section
variable {X : Cx} {E : XK} {m : Md} {e : Expr} {fe : Fn} {pos : Pos}
def rSlS : V → Option Int → Option Int → Hp → VK → Prop := fun x lo hi H Q => ∃ z, x = .str z ∧ z.length ≤ sizeLine ∧ Q (.str (Txt.slice z lo hi)) H
theorem sl_str : SlR X rSlS := by
  intro pins s σ H x v vl vu lo hi sl Q I rx hs pl pu h
  obtain ⟨z, rfl, hz, q⟩ := h
  obtain ⟨t, rfl⟩ := rx
  refine ⟨"str", _, PySem.F.slot_str_getitem.lookup, typeIs_str _ _ _, ?_⟩
  have fin : ∀ t' k, EP X pins σ Q (.str (Txt.slice z lo hi) t') { s with toks := k } := fun t' k => ⟨.str (Txt.slice z lo hi), H, I.tok _, ⟨_, rfl⟩, q⟩
  have le := Nat.le_trans (Txt.slice_le z lo hi) hz
  have le' := le
  unfold Txt.slice at fin le'
  obtain ⟨o, ho, hc, hd⟩ := id hs
  cases pl <;> cases pu
  · exact wpAny_getItem_str_slice (l := none) (u := none) (st := none) ⟨o, ho, hc, hd⟩ rfl (post_val_or_str ⟨le', fin⟩)
  · rename_i j tj
    exact wpAny_getItem_str_slice (l := none) (u := some (j, tj)) (st := none) ⟨o, ho, hc, hd⟩ rfl (post_val_or_str ⟨le', fin⟩)
  · rename_i i ti
    exact wpAny_getItem_str_slice (l := some (i, ti)) (u := none) (st := none) ⟨o, ho, hc, hd⟩ rfl (post_val_or_str ⟨le', fin⟩)
  · rename_i i ti j tj
    exact wpAny_getItem_str_slice (l := some (i, ti)) (u := some (j, tj)) (st := none) ⟨o, ho, hc, hd⟩ rfl (post_val_or_str ⟨le', fin⟩)
def fSlS (f : Fn) (lo hi : Option Fn) : Fn := fun δ => (f δ).bind fun d => (fPart lo δ).bind fun l => (fPart hi δ).bind fun u => match d with
  | .str z => if z.length ≤ sizeLine then .ok (.str (Txt.slice z l u)) else .bad
  | _ => .bad
theorem xslS {lo hi : Option Expr} {flo fhi : Option Fn} {p2 : Pos} (he : PE X e (tX X.K E m fe)) (hl : PO X lo (tP X.K E flo)) (hu : PO X hi (tP X.K E fhi)) (hm : notF m = true := by rfl) : PE X (.Subscript e (.Slice lo hi none p2) pos) (tX X.K E m (fSlS fe flo fhi)) := (pe_slice sl_str he hl hu).imp fun σ H Q q => by
  obtain ⟨c, δ, hK, ab, q⟩ := q
  refine ⟨c, δ, hK, ab, (Res.bind q).imp fun d hd k v H1 e1 r1 => ?_⟩
  refine ⟨c, δ, hK, ab.grow e1, (Res.bind k).imp fun l _ k H2 e2 => ?_⟩
  refine ⟨c, δ, hK, (ab.grow e1).grow e2, (Res.bind k).imp fun u _ k H3 e3 => ?_⟩
  have r1' : Rep c.K (BOf c σ δ m) H3 d v := Rep.same (Rep.same (Post.bOf hm r1) e2) e3
  obtain ⟨z, rfl⟩ : ∃ z, d = .str z := by
    cases d <;> first | exact k.elim | exact ⟨_, rfl⟩
  simp only [Rep] at r1'
  subst r1'
  by_cases hz : z.length ≤ sizeLine
  · simp only [if_pos hz] at k
    exact ⟨z, rfl, hz, k _ H3 ((e1.trans e2).trans e3) (Post.bOf' hm (by simp only [Rep]))⟩
  · simp only [if_neg hz] at k
    exact k.elim
/-! ### upper; t + u for tuples, t not empty -/
def gUpper : D → Ou D
  | .str z => if Builtin.Str.tooLong (Txt.upper z).length = false then .ok (.str (Txt.upper z)) else .bad
  | _ => .bad
def gCatT : D → D → Ou D
  | .tup xs, .tup ys => if xs ≠ [] ∧ xs.length + ys.length ≤ sizeLine then .ok (.tup (xs ++ ys)) else .bad
  | _, _ => .bad
end
end DL
namespace DL
open PySem PySem.Spec PyProof.Rows L2
/-! ### x += e, x -= e (numbers), tuple(list) -/
section
variable {X : Cx} {E : XK} {e : Expr} {fe : Fn} {fr : Rm} {x : Str} {p pos pos' : Pos} {op : Operator} {g : D → D → Ou D}
def sAug (i : Nat) (g : D → D → Ou D) (fe : Fn) : Sm := fun δ => match δ[i]? with
  | some (.val d) => (fe δ).bind fun y => (g d y).bind fun r => .ok (.nx (δ.set i (.val r)))
  | _ => .bad
def gAddI : D → D → Ou D
  | .int i, .int j => .ok (.int (i + j))
  | _, _ => .bad
def gSubI : D → D → Ou D
  | .int i, .int j => .ok (.int (i - j))
  | _, _ => .bad
def gTupOf : D → Ou D
  | .lst ds => .ok (.tup ds)
  | .frl ds => .ok (.tup ds)
  | .tup ds => .ok (.tup ds)
  | _ => .bad
end
end DL
namespace DL
open PySem PySem.Spec PyProof.Rows L2
/-! ### list(range(n)) -/
section
variable {X : Cx} {E : XK} {e : Expr} {fe : Fn} {p p2 pos pos2 : Pos}
def rOkL (j : Int) : Bool := decide (0 ≤ j ∧ j ≤ 1000000)
def gLRng : D → Ou D
  | .int j => if rOkL j = true then .ok (.lst (rng 0 j.toNat)) else .bad
  | _ => .bad
def tLRng (ta : TA) : TE := fun σ H Q => ta σ H fun vs H1 => ∃ j : Int, vs = [.int j] ∧ rOkL j = true ∧ ∀ l, H1 l = none → Q (.ref l) (upd H1 l (.lst ((List.range j.toNat).map fun (k : Nat) => V.int (0 + (k : Int)))))
end
end DL
namespace DL
open PySem PySem.Spec PyProof.Rows L2
/-! ### x.pop(), x.reverse() as statements, x a list of one's own -/
section
variable {X : Cx} {E : XK} {fr : Rm} {x : Str} {pos : Pos}
def sPopD (i : Nat) : Sm := fun δ => match δ[i]? with
  | some (.own (.lst ds)) => (match ds[ds.length - 1]? with
    | some _ => .ok (.nx (δ.set i (.own (.lst ds.dropLast))))
    | none => .bad)
  | _ => .bad
def sRevO (i : Nat) : Sm := fun δ => match δ[i]? with
  | some (.own (.lst ds)) => .ok (.nx (δ.set i (.own (.lst ds.reverse))))
  | _ => .bad
end
end DL
namespace DL
open PySem PySem.Spec PyProof.Rows L2
/-! ### x in a list or tuple of any items that == can tell -/
section
variable {X : Cx}
/-- for each item what == tells of it and x -/
def eqsD (x : D) : List D → Option (List Bool)
  | [] => some []
  | d :: ds => (eqD 60 d x).bind fun b => (eqsD x ds).bind fun bs => some (b :: bs)
def gInD (neg : Bool) (x y : D) : Ou D := if rk y = 1 ∨ rk y = 2 then (match eqsD x (its y) with
  | some bs => .ok (.bl (if neg then !bs.any id else bs.any id))
  | none => .bad) else .bad
/-- what the values of a row tell, one by one -/
inductive EqRow (A : Around) (s : Shared) (v : Value) : List Value → List Bool → Prop
  | nil : EqRow A s v [] []
  | cons {u : Value} {b : Bool} {us : List Value} {bs : List Bool} : SeqAt.EqAt A s u v b → EqRow A s v us bs → EqRow A s v (u :: us) (b :: bs)
theorem EqRow.fn {A : Around} {s : Shared} {v : Value} {us : List Value} {bs : List Bool} (h : EqRow A s v us bs) : ∃ f : Value → Bool, (∀ u ∈ us, SeqAt.EqAt A s u v (f u)) ∧ us.any f = bs.any id := by
  classical
  refine ⟨fun u => decide (∃ j : Nat, us[j]? = some u ∧ bs[j]? = some true), ?_, ?_⟩
  · intro u hu
    show SeqAt.EqAt A s u v (decide (∃ j : Nat, us[j]? = some u ∧ bs[j]? = some true))
    by_cases hc : ∃ j : Nat, us[j]? = some u ∧ bs[j]? = some true
    · rw [decide_eq_true hc]
      obtain ⟨j, h1, h2⟩ := hc
      induction h generalizing j with
      | nil => simp at h1
      | cons e t ih =>
        cases j with
        | zero => simp at h1 h2; subst h1; subst h2; exact e
        | succ j =>
          refine ih ?_ j (by simpa using h1) (by simpa using h2)
          exact List.mem_of_getElem? (by simpa using h1)
    · rw [decide_eq_false hc]
      obtain ⟨j, hj⟩ := List.getElem?_of_mem hu
      have hf : ∀ j : Nat, us[j]? = some u → bs[j]? ≠ some true := fun j h1 h2 => hc ⟨j, h1, h2⟩
      clear hc
      induction h generalizing j with
      | nil => simp at hj
      | @cons u0 b us bs e t ih =>
        cases j with
        | zero =>
          simp at hj
          subst hj
          have := hf 0 rfl
          have hb : b = false := by
            cases b with
            | false => rfl
            | true => exact absurd rfl this
          subst hb
          exact e
        | succ j =>
          have hj' : us[j]? = some u := by simpa using hj
          exact ih (List.mem_of_getElem? hj') j hj' fun i h1 => by
            have := hf (i + 1) (by simpa using h1)
            simpa using this
  · rw [Bool.eq_iff_iff]
    simp only [List.any_eq_true, decide_eq_true_eq, id]
    constructor
    · rintro ⟨u, _, j, _, h2⟩
      exact ⟨true, List.mem_of_getElem? h2, rfl⟩
    · rintro ⟨b, hb, rfl⟩
      obtain ⟨j, hj⟩ := List.getElem?_of_mem hb
      have hl : us.length = bs.length := by
        clear hb hj
        induction h with
        | nil => rfl
        | cons _ _ ih => simp [ih]
      have hj2 : j < us.length := by
        have := (List.getElem?_eq_some_iff.mp hj).1
        lia
      exact ⟨us[j], List.getElem_mem hj2, j, List.getElem?_eq_getElem hj2, hj⟩
def rInD (K : PySem.W.Frag) (neg : Bool) : R2 := fun x y H Q => ∃ (B : Addr → Prop) (dx : D) (ds : List D) (bs : List Bool) (p : Addr) (xs : List V), y = .ref p ∧ (SqL K H p xs ∨ SqT K H p xs) ∧ Rep K B H dx x ∧ Reps K B H ds xs ∧ eqsD dx ds = some bs ∧ Q (.bl (if neg then !bs.any id else bs.any id)) H
end
end DL
namespace DL
open PySem PySem.Spec PyProof.Rows L2
/-! ### a part of a list of one's own -/
section
variable {X : Cx} {E : XK} {pos p2 : Pos}
def fSlO (i : Nat) (lo hi : Option Fn) : Fn := fun δ => match δ[i]? with
  | some (.own (.lst ds)) => (fPart lo δ).bind fun l => (fPart hi δ).bind fun u => .ok (.lst (cutD ds l u))
  | _ => .bad
end
end DL
namespace DL
open PySem PySem.Spec PyProof.Rows L2
/-! ### a list times a number -/
section
variable {X : Cx} {E : XK} {a b : Expr} {fa fb : Fn} {pos : Pos}
def gRep : D → D → Ou D
  | .lst xs, .int k => if -1000000 ≤ k ∧ k ≤ 1000000 ∧ xs.length * k.toNat ≤ sizeLine then .ok (.lst (List.replicate k.toNat xs).flatten) else .bad
  | _, _ => .bad
theorem Reps.rep {K : PySem.W.Frag} {B : Addr → Prop} {H : Hp} {ds : List D} {vs : List V} (r : Reps K B H ds vs) : ∀ k : Nat, Reps K B H (List.replicate k ds).flatten (List.replicate k vs).flatten
  | 0 => by simp [Reps]
  | k + 1 => by
    rw [List.replicate_succ, List.replicate_succ, List.flatten_cons, List.flatten_cons]
    exact Reps.append r (Reps.rep r k)
end
end DL
namespace DL
open PySem PySem.Spec PyProof.Rows L2
/-! ### abs -/
section
variable {X : Cx}
def gAbs : List D → Ou D
  | [.int i] => .ok (.int (if i < 0 then -i else i))
  | _ => .bad
end
end DL
namespace DL
open PySem PySem.Spec PyProof.Rows L2
/-! ### great numbers, multiplied -/
section
variable {X : Cx}
def cMulB (i j : Int) : Bool := decide (i.natAbs < 2 ^ 2000 ∧ j.natAbs < 2 ^ 2000)
def gMulB := gI cMulB fun i j => .int (i * j)
end
end DL
namespace DL
open PySem PySem.Spec PyProof.Rows L2
/-! ### a comprehension over one name whose condition may read what is one's own -/
/-- as the condition sees a name: what is one's own too -/
def slW : Option Sl → Sl
  | some (.val d) => .val d
  | some (.own d) => .val d
  | _ => .un
def compN (gc : DS → Ou Bool) (fe : Fn) (γ ε : DS) : List D → Ou (List D)
  | [] => .ok []
  | x :: xs => (gc (.val x :: γ)).bind fun b => if b = true then (fe (.val x :: ε)).bind fun y => (compN gc fe γ ε xs).bind fun ys => .ok (y :: ys) else compN gc fe γ ε xs
def fCompN (fi : DS → Ou (List D)) (gc : DS → Ou Bool) (fe : Fn) (ix : List Nat) : Fn := fun δ => (fi δ).bind fun ds => if ds.length ≤ sizeLine then (compN gc fe (ix.map fun i => slW δ[i]?) (ix.map fun i => slIn δ[i]?) ds).bind fun ys => .ok (.lst ys) else .bad
section
variable {c : Cn} {σ : St} {δ : DS} {H1 H' : Hp}
/-- the frame in which the item is told -/
theorem Abs.tell {ix : List Nat} {d : D} {x : V} {p : Addr} {ys : HO} (a : Abs c σ δ H1) (e : Same H1 H') (hp : H1 p = none) (hp' : H' p = some ys) (r : Rep c.K (Av c σ δ) H1 d x) :
    Abs { K := c.K, B := fun q => Av c σ δ q ∧ q ≠ p, H₀ := H1, G := [] } (some x :: ix.map fun i => (σ[i]?).join) (.val d :: ix.map fun i => slIn δ[i]?) H' := by
  have no : ∀ (i : Nat) (z : D), (Sl.val d :: ix.map fun i => slIn δ[i]?)[i]? = some (Sl.own z) → False := fun i z h => by
    cases i with
    | zero => cases h
    | succ i =>
      rw [List.getElem?_cons_succ, List.getElem?_map] at h
      cases e : ix[i]? with
      | none => rw [e] at h; cases h
      | some j =>
        rw [e] at h
        have h' : slIn δ[j]? = Sl.own z := Option.some.inj h
        unfold slIn at h'
        split at h' <;> cases h'
  have nown : ∀ q, ¬ Own (some x :: ix.map fun i => (σ[i]?).join) (.val d :: ix.map fun i => slIn δ[i]?) q := fun q ⟨i, z, h, _⟩ => no i z h
  have up : ∀ {d' : D} {v : V}, Rep c.K (Av c σ δ) H1 d' v → Rep c.K (fun q => (Av c σ δ q ∧ q ≠ p) ∧ ¬ Own (some x :: ix.map fun i => (σ[i]?).join) (.val d :: ix.map fun i => slIn δ[i]?) q) H' d' v := fun {d' v} r => Rep.mono (fun q o w1 w2 => ⟨⟨w1, ne_of_none w2 hp⟩, nown q⟩) (.of_same e) d' v r
  refine ⟨e, fun b hb => ⟨a.av_new (e.free hb), fun z => by subst z; rw [hp'] at hb; cases hb⟩, by simp, fun i d' h => ?_, fun i z h => (no i z h).elim, fun d v h => (nomatch h), fun i j di dj q h => (no i di h).elim, fun i q hP => (nomatch hP)⟩
  cases i with
  | zero =>
    have hd : d = d' := by cases h; rfl
    subst hd
    exact ⟨x, rfl, up r⟩
  | succ i =>
    rw [List.getElem?_cons_succ, List.getElem?_map] at h
    cases ej : ix[i]? with
    | none => rw [ej] at h; cases h
    | some j =>
      rw [ej] at h
      have h' : slIn δ[j]? = Sl.val d' := Option.some.inj h
      have hj : δ[j]? = some (Sl.val d') := by
        unfold slIn at h'
        split at h'
        · cases h'; assumption
        · cases h'
      obtain ⟨v, z1, z2⟩ := a.val j d' hj
      refine ⟨v, ?_, up z2⟩
      rw [List.getElem?_cons_succ, List.getElem?_map, ej]
      show some ((σ[j]?).join) = _
      rw [z1]; rfl
end
section
variable {X : Cx} {iter elt tg : Expr} {ifs : List Expr} {scope : Scope} {N' : List Str} {ix : List Nat} {pos : Pos} {gc : DS → Ou Bool} {fe fl : Fn}
end
end DL
namespace DL
open PySem PySem.Spec PyProof.Rows L2
/-! ### list(x) of a list of one's own -/
section
variable {X : Cx} {E : XK} {p pos : Pos}
def fListO (i : Nat) : Fn := fun δ => match δ[i]? with
  | some (.own (.lst ds)) => .ok (.lst ds)
  | _ => .bad
end
end DL
namespace DL
open PySem PySem.Spec PyProof.Rows L2
/-! ### x[::-1] of a list of one's own -/
section
variable {X : Cx} {E : XK} {pos p2 : Pos}
def fBackO (i : Nat) : Fn := fun δ => match δ[i]? with
  | some (.own (.lst ds)) => .ok (.lst ds.reverse)
  | _ => .bad
def fBack (f : Fn) : Fn := fun δ => (f δ).bind fun d => match d with
  | .lst ds => .ok (.lst ds.reverse)
  | _ => .bad
end
/-! ### t[lo:hi] of a tuple, the whole of it too -/
section
open HT
variable {prog : Program} {w : World} {A : Around} {E : Value → Shared → Prop} {s : Shared}
end
section
variable {X : Cx} {E : XK} {pos p2 : Pos} {e : Expr} {fe : Fn} {m : Md}
def rSlU (K : PySem.W.Frag) : V → Option Int → Option Int → Hp → VK → Prop := fun x lo hi H Q => ∃ a xs, x = .ref a ∧ SqT K H a xs ∧ (HT.sIx xs.length 0 lo = 0 ∧ HT.sIx xs.length xs.length hi = xs.length) ∧ Q (.ref a) H
def fSlU (f : Fn) (lo hi : Option Fn) : Fn := fun δ => (f δ).bind fun d => (fPart lo δ).bind fun l => (fPart hi δ).bind fun u => match d with
  | .tup ds => .ok (.tup (cutD ds l u))
  | _ => .bad
end
end DL
namespace Tim
open PySem PyProof.Rows
/-! ### rows put in order by a strict order; pairs of numbers -/
section
variable {α : Type}
structure Ord (lt : α → α → Bool) : Prop where
  irr : ∀ a, lt a a = false
  tr : ∀ {a b c}, lt a b = true → lt b c = true → lt a c = true
  neg : ∀ {a b c}, lt a b = false → lt b c = false → lt a c = false
def rank (lt : α → α → Bool) (ks : List α) (k : α) : Nat := ks.countP (lt · k)
/-- insertion by an order -/
def insB (lt : α → α → Bool) (x : α) : List α → List α
  | [] => [x]
  | y :: r => if lt y x = true then y :: insB lt x r else x :: y :: r
def srt (lt : α → α → Bool) : List α → List α
  | [] => []
  | x :: r => insB lt x (srt lt r)
abbrev SB (lt : α → α → Bool) (r : List α) : Prop := r.Pairwise fun a b => lt b a = false
end
/-! pairs of numbers -/
def plt (a b : Int × Int) : Bool := if a.1 = b.1 then decide (a.2 < b.2) else decide (a.1 < b.1)
end Tim
namespace DL
open PySem PySem.Spec PyProof.Rows L2
abbrev psort (ps : List (Int × Int)) : List (Int × Int) := Tim.srt Tim.plt ps
def pairD (p : Int × Int) : D := .tup [.int p.1, .int p.2]
def pairsD : List D → Option (List (Int × Int))
  | [] => some []
  | .tup [.int a, .int b] :: r => (pairsD r).map ((a, b) :: ·)
  | _ => none
def gSortP (d : D) : Ou D := if rk d = 1 ∨ rk d = 2 then (match pairsD (its d) with
    | some ps => if ps.length < 128 then .ok (.lst ((psort ps).map pairD)) else .bad
    | none => .bad) else .bad
end DL
namespace DL
open PySem PySem.Spec PyProof.Rows L2
def gCatU : D → D → Ou D
  | .tup xs, .tup ys => if xs.length + ys.length ≤ sizeLine then .ok (.tup (xs ++ ys)) else .bad
  | _, _ => .bad
end DL
namespace DL
open PySem PySem.Spec PyProof.Rows L2
/-! ### the least of a row of pairs; a pair out of a row -/
def gMinP (d : D) : Ou D := if rk d = 2 then (match pairsD (its d) with
    | some ps => (match psort ps with
      | p :: _ => .ok (pairD p)
      | [] => .bad)
    | none => .bad) else .bad
def sRemP (i : Nat) (f : Fn) : Sm := fun δ => match δ[i]? with
  | some (.own (.lst ds)) => (f δ).bind fun d => match pairsD ds, pairsD [d] with
    | some ps, some [p] => if p ∈ ps then .ok (.nx (δ.set i (.own (.lst ((ps.erase p).map pairD))))) else .bad
    | _, _ => .bad
  | _ => .bad
end DL
namespace Tim
open PySem PyProof.Rows
/-! ### sorting by keys of any kind that are told apart by a strict order -/
section
variable {α : Type}
end
section
variable {prog : Program} {w : World} {A : Around} {E : Value → Shared → Prop} {s : Shared}
def TupAt (h : Heap) (v : Value) (p : Int × Int) : Prop := ∃ a t u, v = .ref a ∧ IsTup h a #[.int p.1 t, .int p.2 u]
def pairOf (h : Heap) : Value → Int × Int
  | .ref a => match h.get? a with
    | some o => match o.data with
      | .seq xs _ => (numOf (xs.getD 0 .none), numOf (xs.getD 1 .none))
      | _ => (0, 0)
    | none => (0, 0)
  | _ => (0, 0)
theorem TupAt.pair {h : Heap} {v : Value} {p : Int × Int} (t : TupAt h v p) : pairOf h v = p := by
  obtain ⟨a, t, u, rfl, o, ho, _, n, hd⟩ := t
  simp only [pairOf, ho, hd]
  rfl
def TupsAt (h : Heap) : List Value → List (Int × Int) → Prop
  | [], [] => True
  | v :: vs, p :: ps => TupAt h v p ∧ TupsAt h vs ps
  | _, _ => False
theorem TupsAt.mem {h : Heap} : ∀ {vs : List Value} {ps : List (Int × Int)}, TupsAt h vs ps → ∀ v, v ∈ vs → ∃ p, TupAt h v p
  | [], [], _, v, hv => by cases hv
  | [], _ :: _, t, _, _ => t.elim
  | _ :: _, [], t, _, _ => t.elim
  | x :: vs, p :: ps, t, v, hv => by
    rcases List.mem_cons.mp hv with rfl | hv
    · exact ⟨p, t.1⟩
    · exact TupsAt.mem t.2 v hv
theorem TupsAt.keep {h h' : Heap} (k : ∀ b o, h.get? b = some o → h'.get? b = some o) : ∀ {vs : List Value} {ps : List (Int × Int)}, TupsAt h vs ps → TupsAt h' vs ps
  | [], [], _ => trivial
  | [], _ :: _, t => t.elim
  | _ :: _, [], t => t.elim
  | x :: vs, p :: ps, t => by
    obtain ⟨⟨a, t1, u, rfl, o, ho, hc, n, hd⟩, t2⟩ := t
    exact ⟨⟨a, t1, u, rfl, o, k _ _ ho, hc, n, hd⟩, TupsAt.keep k t2⟩
end
end Tim
namespace DL
open PySem PySem.Spec PyProof.Rows L2
/-! ### sorted(x) of pairs of numbers, x a list or a tuple of up to 127 of them -/
def PrV (K : PySem.W.Frag) (H : Hp) (v : V) (p : Int × Int) : Prop := ∃ a, v = .ref a ∧ SqT K H a [.int p.1, .int p.2]
section
variable {X : Cx} {E : XK} {m : Md} {a b e o i : Expr} {fa fb fe fo fi : Fn} {pos p : Pos} {fr : Rm} {x : Str}
theorem PrV.same {K : PySem.W.Frag} {H H' : Hp} {v : V} {p : Int × Int} (h : PrV K H v p) (e : Same H H') : PrV K H' v p := by
  obtain ⟨a, rfl, h⟩ := h
  exact ⟨a, rfl, same_tup e h⟩
end
end DL
namespace DL
open PySem PySem.Spec PyProof.Rows L2
/-! ### t + u of any two tuples -/
section
variable {X : Cx} {E : XK} {pos : Pos}
def rCatU (K : PySem.W.Frag) : V → V → Hp → VK → Prop := fun x y H Q => ∃ a b xs ys, x = .ref a ∧ y = .ref b ∧ SqT K H a xs ∧ SqT K H b ys ∧ xs.length + ys.length ≤ sizeLine ∧ (xs = [] → Q (.ref b) H) ∧ (ys = [] → Q (.ref a) H) ∧ ∀ p, H p = none → Q (.ref p) (upd H p (.tup (xs ++ ys)))
end
end DL
namespace Tim
open PySem PyProof.Rows
/-! ### min(l) where comparing reads what lies in the heap -/
abbrev Kept (h h' : Heap) : Prop := ∀ b o, h.get? b = some o → h'.get? b = some o
section
variable {prog : Program} {w : World} {A : Around} {E : Value → Shared → Prop} {R : Result → Shared → Prop} {I S : Addr} {fp wr : List Addr} {n : Nat} {P : Nat → Value → Prop} {St : Nat → Heap → Prop} {h₀ : Heap} {bt : Nat → Nat → Bool}
def CmpIn (prog : Program) (w : World) (A : Around) (h₀ : Heap) (P : Nat → Value → Prop) (bt : Nat → Nat → Bool) : Prop :=
  ∀ i j vi vj (s : Shared) (Q : Value → Shared → Prop) (E : Value → Shared → Prop), Kept h₀ s.heap → P i vi → P j vj → Q (.bool (bt i j)) s → wpAny (model prog w) A (richCompare .Lt vi vj) Q E s
theorem Kept.upd {h : Heap} (k : Kept h₀ h) (hS : h₀.get? S = none) (f : Obj → Obj) : Kept h₀ (h.update S f) := fun b o e => (Heap.get?_update_other _ _ (fun q => by rw [q, e] at hS; cases hS)).trans (k b o e)
theorem Kept.out {h h' : Heap} (k : Kept h₀ h) (hw : ∀ b ∈ wr, h₀.get? b = none) (hk : ∀ b o, b ∉ wr → h.get? b = some o → h'.get? b = some o) : Kept h₀ h' := fun b o e => hk b o (fun q => by rw [hw b q] at e; cases e) (k b o e)
end
end Tim
namespace DL
open PySem PySem.Spec PyProof.Rows L2
section
variable {X : Cx} {E : XK} {m : Md} {a b e o i : Expr} {fa fb fe fo fi : Fn} {pos p : Pos} {fr : Rm} {x : Str}
theorem PrV.rep {K : PySem.W.Frag} {B : Addr → Prop} {H : Hp} {v : V} {p : Int × Int} (h : PrV K H v p) : Rep K B H (pairD p) v := by
  obtain ⟨a, rfl, h⟩ := h
  simp only [pairD, Rep, Reps]
  exact ⟨a, _, rfl, h, _, _, rfl, rfl, _, _, rfl, rfl, rfl⟩
/-! ### l.remove(x) -/
theorem Vals.erase {xs : List V} {us : List Value} (r : Vals xs us) : ∀ j, Vals (xs.eraseIdx j) (us.eraseIdx j) := by
  induction r with
  | nil => intro j; exact .nil
  | cons h t ih =>
    intro j
    cases j with
    | zero => exact t
    | succ j => exact .cons h (ih j)
theorem Reps.erase {K : PySem.W.Frag} {B : Addr → Prop} {H : Hp} : ∀ {ds : List D} {vs : List V} (j : Nat), Reps K B H ds vs → Reps K B H (ds.eraseIdx j) (vs.eraseIdx j)
  | [], vs, j, r => by
    have : vs = [] := by simpa [Reps] using r
    subst this
    simp [Reps]
  | d :: ds, vs, j, r => by
    simp only [Reps] at r
    obtain ⟨v, r', rfl, h1, h2⟩ := r
    cases j with
    | zero => exact h2
    | succ j =>
      simp only [List.eraseIdx_cons_succ, Reps]
      exact ⟨_, _, rfl, h1, Reps.erase j h2⟩
end
end DL
namespace DL
open PySem PySem.Spec PyProof.Rows L2
/-! ### a text, sign by sign -/
def sgns (x : Str) : List D := x.cps.toList.map fun c => D.str ⟨#[c]⟩
def Itx (x : Str) : It := ⟨fun i _ => i < x.cps.size, fun i H v H' => H' = H ∧ ∃ c, x.cps[i]? = some c ∧ v = .str ⟨#[c]⟩, fun i _ => i = x.cps.size⟩
def iStr (te : TE) : TI := fun σ H R => te σ H fun v H1 => ∃ x, v = .str x ∧ R (Itx x) H1
section
variable {X : Cx} {E : XK} {tg : Expr} {e : Expr} {fl : Fn} {F : Sm} {fr : Rm} {p pos : Pos}
def sForS (fl : Fn) (g : D → DS → Ou DS) (body : Sm) : Sm := fun δ => (fl δ).bind fun d => match d with
  | .str x => forL g body (sgns x) δ
  | _ => .bad
def fItemsS (f : Fn) : DS → Ou (List D) := fun δ => (f δ).bind fun d => match d with
  | .str x => .ok (sgns x)
  | _ => .bad
/-! ### all([..]) of truths -/
def blD : D → Option Bool
  | .bl b => some b
  | _ => none
def gAll : D → Ou D := fun d => if rk d = 2 ∧ (its d).all (fun x => (blD x).isSome) = true then .ok (.bl ((its d).all fun x => (blD x).getD true)) else .bad
/-! ### texts: order, in, times -/
def gLeS : D → D → Ou D
  | .str x, .str y => .ok (.bl (!(decide (y.cps.toList < x.cps.toList))))
  | _, _ => .bad
def gInS (neg : Bool) : D → D → Ou D
  | .str x, .str y => .ok (.bl (let z := !(Builtin.Str.occurrences y x 0 y.length 1).isEmpty; if neg then !z else z))
  | _, _ => .bad
def gMulS : D → D → Ou D
  | .str x, .int n => if 0 < n ∧ n ≤ 1000 ∧ x.length ≤ 1000 then .ok (.str (Txt.mul x n)) else .bad
  | _, _ => .bad
end
end DL
namespace PySem
end PySem
namespace PySem
namespace F
end F
section
variable {prog : Program} {w : World} {K : Type} [DecidableEq K] {knd : KeyKind prog w K} {A : Around} {E : Value → Shared → Prop} {s : Shared}
/-- the pairs that an update reads -/
def PairsAt (knd : KeyKind prog w K) (d I : Addr) (items : Array Value) (more : List (K × Value)) (h : Heap) : Prop :=
  ∀ (j : Nat) (kv : K × Value), more[j]? = some kv → ∃ b key, items[j]? = some (.ref b) ∧ b ≠ d ∧ b ≠ I ∧ h.IsTuple b #[key, kv.2] ∧ knd.is kv.1 key = true
end
end PySem
namespace PySem
section
variable {prog : Program} {w : World} {K : Type} [DecidableEq K] {knd : KeyKind prog w K} {A : Around} {E : Value → Shared → Prop} {s : Shared}
end
end PySem

namespace DL
open PySem PySem.Spec PyProof.Rows L2
/-! ### d.get(k, x) of a dict of one's own -/
section
variable {X : Cx} {E : XK} {m : Md} {e : Expr} {fe : Fn} {p pos : Pos} {x : Str}
def fDGetO (j : Nat) (fk fd : Fn) : Fn := fun δ => match δ[j]? with
  | some (.own (.dic ks ds)) => (fk δ).bind fun k => (match keyD k with
    | some q => (fd δ).bind fun z => .ok ((dGet ks ds q).getD z)
    | none => .bad)
  | _ => .bad
/-! ### dict([(k, v), ..]) -/
def pairK : D → Option (Key × D)
  | .tup [k, v] => (keyD k).map fun q => (q, v)
  | _ => none
def pairsK : List D → Option (List (Key × D))
  | [] => some []
  | d :: ds => match pairK d, pairsK ds with
    | some p, some ps => some (p :: ps)
    | _, _ => none
def gDictP : D → Ou D
  | .lst ds => (match pairsK ds with
    | some ps => if (ps.map (·.1)).Nodup then .ok (.dic (ps.map (·.1)) (ps.map (·.2))) else .bad
    | none => .bad)
  | _ => .bad
end
end DL
namespace Tim
open PySem PyProof.Rows
/-! ### texts in their order -/
def slt (x y : Str) : Bool := decide (x.cps.toList < y.cps.toList)
section
variable {prog : Program} {w : World} {A : Around} {E : Value → Shared → Prop} {s : Shared} {α : Type}
end
end Tim
namespace Tim
open PySem PyProof.Rows
section
variable {prog : Program} {w : World} {A : Around} {E : Value → Shared → Prop} {s : Shared}
/-- a tuple in the heap whose first item is that text -/
def NmAt (h : Heap) (v : Value) (x : Str) : Prop := ∃ a o xs n t, v = .ref a ∧ h.get? a = some o ∧ o.cls = .type "tuple" ∧ o.data = .seq xs n ∧ xs[0]? = some (.str x t)
theorem NmAt.keep {h h' : Heap} {v : Value} {x : Str} (k : ∀ b o, h.get? b = some o → h'.get? b = some o) (n : NmAt h v x) : NmAt h' v x := by
  obtain ⟨a, o, xs, n, t, rfl, ho, r⟩ := n
  exact ⟨a, o, xs, n, t, rfl, k _ _ ho, r⟩
def nmOf (h : Heap) : Value → Str
  | .ref a => match h.get? a with
    | some o => match o.data with
      | .seq xs _ => strOf (xs.getD 0 .none)
      | _ => ""
    | none => ""
  | _ => ""
theorem NmAt.nm {h : Heap} {v : Value} {x : Str} (n : NmAt h v x) : nmOf h v = x := by
  obtain ⟨a, o, xs, n, t, rfl, ho, hc, hd, hx⟩ := n
  have e : xs.getD 0 .none = .str x t := by
    rw [Array.getD_eq_getD_getElem?, hx]; rfl
  simp only [nmOf, ho, hd, e]
  rfl
end
end Tim
namespace DL
open PySem PySem.Spec PyProof.Rows L2
abbrev ssort (xs : List Str) : List Str := Tim.srt Tim.slt xs
section
variable {X : Cx} {E : XK} {m : Md} {e : Expr} {fe : Fn} {p pos : Pos} {x : Str}
/-! ### sorted(d), its keys texts -/
def keysS : List Key → Option (List Str)
  | [] => some []
  | .inr x :: ks => (keysS ks).map (x :: ·)
  | _ :: _ => none
def gSortDS : D → Ou D
  | .dic ks _ => (match keysS ks with
    | some ns => if ns.length < 128 then .ok (.lst ((ssort ns).map D.str)) else .bad
    | none => .bad)
  | _ => .bad
/-! ### sorted(d.values()), d one's own, its values told apart by the name in front -/
/-- the name in front -/
def nmD : D → Option Str
  | .tup (.str x :: _) => some x
  | _ => none
def nmsD : List D → Option (List Str)
  | [] => some []
  | d :: ds => match nmD d, nmsD ds with
    | some x, some xs => some (x :: xs)
    | _, _ => none
def byName (a b : D) : Bool := Tim.slt ((nmD a).getD "") ((nmD b).getD "")
def fSortV (j : Nat) : Fn := fun δ => match δ[j]? with
  | some (.own (.dic _ ds)) => (match nmsD ds with
    | some xs => if xs.Nodup ∧ xs.length < 128 then .ok (.lst (Tim.srt byName ds)) else .bad
    | none => .bad)
  | _ => .bad
end
end DL
namespace Tim
open PySem PyProof.Rows
section
variable {α β : Type}
end
section
variable {prog : Program} {w : World} {A : Around} {E : Value → Shared → Prop} {s : Shared}
end
end Tim
namespace DL
open PySem PySem.Spec PyProof.Rows L2
section
variable {X : Cx} {E : XK} {m : Md} {e : Expr} {fe : Fn} {p pos : Pos} {x : Str}
end
end DL
namespace DL
open PySem PySem.Spec PyProof.Rows L2
section
variable {X : Cx} {E : XK} {p px pos apos cpos : Pos} {x : Str}
def tSortV (K : PySem.W.Frag) (j : Nat) : TE := fun σ H Q => ∃ (a : Addr) (kvs : List (Key × V)) (B : Addr → Prop) (ds : List D) (ns : List Str), σ[j]? = some (some (.ref a)) ∧ H a = some (.dK kvs) ∧ Reps K B H ds (kvs.map (·.2)) ∧ nmsD ds = some ns ∧ ns.Nodup ∧ ns.length < 128 ∧
  ∀ l ys, H l = none → Reps K B H (Tim.srt byName ds) ys → Q (.ref l) (upd H l (.lst ys))
end
end DL
namespace DL
open PySem PySem.Spec PyProof.Rows L2
/-! ### for x in l: if t: return e, l a list of one's own that may change behind it -/
section
variable {X : Cx} {E : XK} {fr : Rm} {x y : Str} {pos : Pos} {ga : DS → Ou Bool} {fe : Fn}
def sForO (i j : Nat) (ga : DS → Ou Bool) (fe : Fn) : Sm := fun δ => match δ[i]? with
  | some (.own (.lst ds)) => if i = j then .bad else forL (gNm j) (sSeq (sIf ga (sSeq (sRet fe) sNext) sNext) sNext) ds δ
  | _ => .bad
end
end DL
namespace DL
open PySem PySem.Spec PyProof.Rows L2
/-! ### dicts whose keys are tuples of ints and texts -/
def keyP : List D → Option (List Key)
  | [] => some []
  | d :: ds => (match keyD d with
    | some k => (match keyP ds with
      | some r => some (k :: r)
      | none => none)
    | none => none)
def pGet : List (List Key) → List D → List Key → Option D
  | k :: ks, d :: ds, q => if k = q then some d else pGet ks ds q
  | _, _, _ => none
def pSet : List (List Key) → List D → List Key → D → List D
  | k :: ks, d :: ds, q, v => (if k = q then v else d) :: pSet ks ds q v
  | _, ds, _, _ => ds
def pPutK (ks : List (List Key)) (q : List Key) : List (List Key) := if (ks.any fun k => decide (k = q)) = true then ks else ks ++ [q]
def pPutV (ks : List (List Key)) (ds : List D) (q : List Key) (d : D) : List D := if (ks.any fun k => decide (k = q)) = true then pSet ks ds q d else ds ++ [d]
section
variable {K : PySem.W.Frag} {B : Addr → Prop} {H : Hp}
end
section
variable {X : Cx} {E : XK} {m : Md} {e o : Expr} {fe fo : Fn} {pos p : Pos} {fr : Rm} {x : Str} {es : List Expr} {fs : List Fn}
def fDip0 : Fn := fun _ => .ok (.dip [] [])
/-- d.get((a, b)) -/
def fDGetT (fo : Fn) (fs : List Fn) : Fn := fun δ => (fo δ).bind fun d => match d with
  | .dip ks ds => (fArgs fs δ).bind fun k => (match keyP k with
    | some q => .ok ((pGet ks ds q).getD .non)
    | none => .bad)
  | _ => .bad
/-- d[a, b] = v -/
def sDPutT (j : Nat) (fs : List Fn) (fv : Fn) : Sm := fun δ => (fv δ).bind fun d => match δ[j]? with
  | some (.own (.dip ks ds)) => (fArgs fs δ).bind fun k => (match keyP k with
    | some q => if ks.length < sizeLine then .ok (.nx (δ.set j (.own (.dip (pPutK ks q) (pPutV ks ds q d))))) else .bad
    | none => .bad)
  | _ => .bad
/-- l.extend(m), l a list of one's own -/
def sExt (i : Nat) (f : Fn) : Sm := fun δ => match δ[i]? with
  | some (.own (.lst ds)) => (f δ).bind fun d => (match d with
    | .lst es => if ds.length + es.length ≤ sizeLine then .ok (.nx (δ.set i (.own (.lst (ds ++ es))))) else .bad
    | _ => .bad)
  | _ => .bad
end
end DL
namespace DL
open PySem PySem.Spec PyProof.Rows L2
/-! ### for k in d, d a dict of one's own that stays as it is from here on -/
section
variable {X : Cx} {E : XK} {fr : Bool} {x : Str} {pos : Pos} {F : Sm}
def Itd (a : Addr) (o : Obj) (kvs : List (Key × V)) : It :=
  ⟨fun i H => H a = some (.frz o (.dK kvs)) ∧ i < kvs.length, fun i H x H' => H' = H ∧ ∃ k, (kvs.map (·.1))[i]? = some k ∧ x = kV k, fun i H => H a = some (.frz o (.dK kvs)) ∧ kvs.length ≤ i⟩
def iDictF (te : TE) : TI := fun σ H R => te σ H fun v H1 => ∃ a kvs, v = .ref a ∧ H1 a = some (.dK kvs) ∧ ∀ o, R (Itd a o kvs) (upd H1 a (.frz o (.dK kvs)))
def sForD (i : Nat) (g : D → DS → Ou DS) (body : Sm) : Sm := fun δ => match δ[i]? with
  | some (.own (.dic ks ds)) => forL g body (ks.map kD) (δ.set i (.val (.dic ks ds)))
  | _ => .bad
end
end DL
namespace Bt
theorem b2 (a b : Nat) (ha : a < 2) (hb : b < 2) : (a ||| b) = (a ^^^ b) + (a &&& b) := by
  have h1 : a = 0 ∨ a = 1 := by lia
  have h2 : b = 0 ∨ b = 1 := by lia
  rcases h1 with rfl | rfl <;> rcases h2 with rfl | rfl <;> rfl
theorem xor_zero_eq {a b : Nat} (h : a ^^^ b = 0) : a = b := by
  refine Nat.eq_of_testBit_eq fun i => ?_
  have : (a ^^^ b).testBit i = false := by rw [h]; simp
  rw [Nat.testBit_xor] at this
  simpa using this
/-- the bits of a number -/
def bits (z : Nat) : Nat := if z = 0 then 0 else z.log2 + 1
theorem same {f l : Nat} (hz : f ^^^ l = 0) : f = l ∧ bits (f ^^^ l) = 0 := ⟨xor_zero_eq hz, by rw [hz]; rfl⟩
theorem block {f n : Nat} (hf : f < 2 ^ 30) (hn : n ≤ 30) : f / 2 ^ n * 2 ^ n + 2 ^ n ≤ 2 ^ 30 := by
  have e : 2 ^ 30 = 2 ^ (30 - n) * 2 ^ n := by rw [← Nat.pow_add]; congr 1; lia
  have h : f / 2 ^ n < 2 ^ (30 - n) := by
    rw [Nat.div_lt_iff_lt_mul (Nat.two_pow_pos n), ← e]; exact hf
  have h2 : (f / 2 ^ n + 1) * 2 ^ n ≤ 2 ^ (30 - n) * 2 ^ n := Nat.mul_le_mul_right _ h
  rw [Nat.add_mul, Nat.one_mul, ← e] at h2
  exact h2
end Bt
namespace DL
open PySem L2
section
variable {F G : Sm} {δ : DS} {fa fb fc : Fn} {g g' : D → D → Ou D} {ga gb : DS → Ou Bool}
@[simp] theorem e_seq : sSeq F G δ = (F δ).bind fun r => match r with
  | .nx δ' => G δ'
  | r => .ok r := rfl
@[simp] theorem e_next : sNext δ = .ok (.nx δ) := rfl
@[simp] theorem e_if : sIf ga F G δ = (ga δ).bind fun b => if b = true then F δ else G δ := rfl
@[simp] theorem e_ret : sRet fa δ = (fa δ).bind fun d => .ok (.rt d) := rfl
@[simp] theorem e_drop : sDrop fa δ = (fa δ).bind fun _ => .ok (.nx δ) := rfl
@[simp] theorem e_set {i : Nat} : sSet i fa δ = (fa δ).bind fun d => .ok (.nx (δ.set i (.val d))) := rfl
@[simp] theorem e_break : sBreak δ = .ok (.bk δ) := rfl
@[simp] theorem e_cont : sCont δ = .ok (.ct δ) := rfl
@[simp] theorem e_f2 : f2 g fa fb δ = (fa δ).bind fun x => (fb δ).bind fun y => g x y := rfl
@[simp] theorem e_f1 {h : D → Ou D} : f1 h fa δ = (fa δ).bind h := rfl
@[simp] theorem e_c {d : D} : fC d δ = .ok d := rfl
@[simp] theorem e_asB : fAsB fa δ = (fa δ).bind asB := rfl
@[simp] theorem e_tru : fTru fa δ = (fa δ).bind truD := rfl
@[simp] theorem e_notT : fNotT ga δ = (ga δ).bind fun b => .ok (!b) := rfl
@[simp] theorem e_andT : fAndT ga gb δ = (ga δ).bind fun b => if b = true then gb δ else .ok false := rfl
@[simp] theorem e_orT : fOrT ga gb δ = (ga δ).bind fun b => if b = true then .ok true else gb δ := rfl
@[simp] theorem e_andV : fAndV fa fb δ = (fa δ).bind fun x => (asB x).bind fun b => if b = true then fb δ else .ok (.bl false) := rfl
@[simp] theorem e_orV : fOrV fa fb δ = (fa δ).bind fun x => (asB x).bind fun b => if b = true then .ok (.bl true) else fb δ := rfl
@[simp] theorem e_notV : fNotV fa δ = (fa δ).bind fun x => (asB x).bind fun b => .ok (.bl (!b)) := rfl
@[simp] theorem e_ife : fIfE ga fa fb δ = (ga δ).bind fun b => if b = true then fa δ else fb δ := rfl
@[simp] theorem e_chn : fChn g g' fa fb fc δ = (fa δ).bind fun x => (fb δ).bind fun y => (g x y).bind fun z => (asB z).bind fun k => if k = true then (fc δ).bind fun w => g' y w else .ok (.bl false) := rfl
@[simp] theorem e_tup {fs : List Fn} : fTup fs δ = (fArgs fs δ).bind fun ds => .ok (.tup ds) := rfl
@[simp] theorem e_lst {fs : List Fn} : fLst fs δ = (fArgs fs δ).bind fun ds => .ok (.lst ds) := rfl
@[simp] theorem e_call {mm : List D → Ou D} {fs : List Fn} : fCall mm fs δ = (fArgs fs δ).bind mm := rfl
@[simp] theorem e_args0 : fArgs [] δ = .ok [] := rfl
@[simp] theorem e_args {f : Fn} {fs : List Fn} : fArgs (f :: fs) δ = (f δ).bind fun d => (fArgs fs δ).bind fun ds => .ok (d :: ds) := rfl
@[simp] theorem e_meth {tb : MTab} {fo : Fn} {fs : List Fn} : fMeth tb fo fs δ = (fo δ).bind fun d => match tbM tb d with
  | some mm => (fArgs fs δ).bind fun ds => mm (d :: ds)
  | none => .bad := rfl
@[simp] theorem e_make0 {c : PySem.Str} : fMake0 c δ = .ok (.obj c) := rfl
@[simp] theorem tbM_head {c : PySem.Str} {f : List D → Ou D} {tb : MTab} : tbM ((c, f) :: tb) (.obj c) = some f := by simp [tbM]
theorem tbM_tail {c c' : PySem.Str} {f : List D → Ou D} {tb : MTab} (h : (c' == c) = false) : tbM ((c', f) :: tb) (.obj c) = tbM tb (.obj c) := by simp [tbM, h]
@[simp] theorem e_listL {ds : List D} : gListOf (.lst ds) = .ok (.lst ds) := rfl
@[simp] theorem e_listF {ds : List D} : gListOf (.frl ds) = .ok (.lst ds) := rfl
@[simp] theorem e_listT {ds : List D} : gListOf (.tup ds) = .ok (.lst ds) := rfl
@[simp] theorem e_isBl {d : D} {k : Bool} : gIsB d (.bl k) = .ok (.bl (isBl k d)) := rfl
@[simp] theorem e_notBl {d : D} {k : Bool} : gNotB d (.bl k) = .ok (.bl (!isBl k d)) := rfl
@[simp] theorem e_isBl2 {k k' : Bool} : isBl k (.bl k') = (k' == k) := rfl
@[simp] theorem e_isNn : gIsN .non = .ok (.bl true) := rfl
@[simp] theorem e_notNn : gNotN .non = .ok (.bl false) := rfl
@[simp] theorem e_sown {i : Nat} : sOwn i fa δ = (fa δ).bind fun d => .ok (.nx (δ.set i (.own d))) := rfl
@[simp] theorem e_asBb {b : Bool} : asB (.bl b) = .ok b := rfl
@[simp] theorem e_truB {b : Bool} : truD (.bl b) = .ok b := rfl
@[simp] theorem e_up : fUp fa δ = (fa δ).bind fun d => if imm d = true then .ok d else .bad := rfl
@[simp] theorem e_imm_i {i : Int} : imm (.int i) = true := rfl
@[simp] theorem e_imm_b {i : Bool} : imm (.bl i) = true := rfl
@[simp] theorem e_imm_s {i : Str} : imm (.str i) = true := rfl
@[simp] theorem e_imm_n : imm .non = true := rfl
@[simp] theorem e_imm_t {ds : List D} : imm (.tup ds) = imms ds := by simp [imm]
@[simp] theorem e_imms0 : imms [] = true := by simp [imms]
@[simp] theorem e_imms {d : D} {ds : List D} : imms (d :: ds) = (imm d && imms ds) := by simp [imms]
@[simp] theorem e_add {i j : Int} : gAdd (.int i) (.int j) = .ok (.int (i + j)) := rfl
@[simp] theorem e_sub {i j : Int} : gSub (.int i) (.int j) = .ok (.int (i - j)) := rfl
@[simp] theorem e_mul {i j : Int} : gMul (.int i) (.int j) = if cMul i j = true then .ok (.int (i * j)) else .bad := rfl
@[simp] theorem e_div {i j : Int} : gDiv (.int i) (.int j) = if cDiv i j = true then .ok (.int (i / j)) else .bad := rfl
@[simp] theorem e_mod {i j : Int} : gMod (.int i) (.int j) = if cMod i j = true then .ok (.int (i % j)) else .bad := rfl
@[simp] theorem e_pow {i j : Int} : gPow (.int i) (.int j) = if cPow i j = true then .ok (.int (i ^ j.toNat)) else .bad := rfl
@[simp] theorem e_shl {i j : Int} : gShl (.int i) (.int j) = if cPow i j = true then .ok (.int (i * 2 ^ j.toNat)) else .bad := rfl
@[simp] theorem e_shr {i j : Int} : gShr (.int i) (.int j) = if cShr i j = true then .ok (.int (i / 2 ^ j.toNat)) else .bad := rfl
@[simp] theorem e_xor {i j : Int} : gXor (.int i) (.int j) = .ok (.int (Builtin.bitXor i j)) := rfl
@[simp] theorem e_and {i j : Int} : gAnd (.int i) (.int j) = .ok (.int (Builtin.bitAnd i j)) := rfl
@[simp] theorem e_lt {i j : Int} : gLt (.int i) (.int j) = .ok (.bl (decide (i < j))) := rfl
@[simp] theorem e_le {i j : Int} : gLe (.int i) (.int j) = .ok (.bl (decide (i ≤ j))) := rfl
@[simp] theorem e_gt {i j : Int} : gGt (.int i) (.int j) = .ok (.bl (decide (j < i))) := rfl
@[simp] theorem e_ge {i j : Int} : gGe (.int i) (.int j) = .ok (.bl (decide (j ≤ i))) := rfl
theorem gEq_eq {x y : D} : gEq x y = match eqF (eqF (eqF (eqD 57))) x y with
  | some b => .ok (.bl b)
  | none => .bad := rfl
theorem gNe_eq {x y : D} : gNe x y = match eqF (eqF (eqF (eqD 57))) x y with
  | some b => .ok (.bl (!b))
  | none => .bad := rfl
@[simp] theorem e_eqI {i j : Int} : gEq (.int i) (.int j) = .ok (.bl (decide (i = j))) := rfl
@[simp] theorem e_eqB {i j : Bool} : gEq (.bl i) (.bl j) = .ok (.bl (decide (i = j))) := rfl
@[simp] theorem e_neI {i j : Int} : gNe (.int i) (.int j) = .ok (.bl (!decide (i = j))) := rfl
@[simp] theorem e_neg {i : Int} : gNeg (.int i) = .ok (.int (-i)) := rfl
@[simp] theorem e_min {i j : Int} : gMin [.int i, .int j] = .ok (.int (if j < i then j else i)) := rfl
@[simp] theorem e_max {i j : Int} : gMax [.int i, .int j] = .ok (.int (if j > i then j else i)) := rfl
@[simp] theorem e_lenL {ds : List D} : gLen [.lst ds] = .ok (.int (ds.length : Nat)) := rfl
@[simp] theorem e_lenF {ds : List D} : gLen [.frl ds] = .ok (.int (ds.length : Nat)) := rfl
@[simp] theorem e_lenT {ds : List D} : gLen [.tup ds] = .ok (.int (ds.length : Nat)) := rfl
@[simp] theorem e_ixT {ds : List D} {i : Int} : gIx (.tup ds) (.int i) = match atI ds i with
  | some d => .ok d
  | none => .bad := rfl
@[simp] theorem e_ixL {ds : List D} {i : Int} : gIx (.lst ds) (.int i) = match atI ds i with
  | some d => .ok d
  | none => .bad := rfl
@[simp] theorem e_ixF {ds : List D} {i : Int} : gIx (.frl ds) (.int i) = match atI ds i with
  | some d => .ok d
  | none => .bad := rfl
@[simp] theorem e_isI {i : Int} {T : String} : gIs T (.int i) = .ok (.bl (isT "int" T)) := rfl
@[simp] theorem e_isB {i : Bool} {T : String} : gIs T (.bl i) = .ok (.bl (isT "bool" T)) := rfl
@[simp] theorem e_isS {i : Str} {T : String} : gIs T (.str i) = .ok (.bl (isT "str" T)) := rfl
@[simp] theorem e_isN {T : String} : gIs T .non = .ok (.bl (isT "NoneType" T)) := rfl
@[simp] theorem e_isT {ds : List D} {T : String} : gIs T (.tup ds) = .ok (.bl (isT "tuple" T)) := rfl
@[simp] theorem e_isL {ds : List D} {T : String} : gIs T (.lst ds) = .ok (.bl (isT "list" T)) := rfl
@[simp] theorem e_isF {ds : List D} {T : String} : gIs T (.frl ds) = .ok (.bl (isT "list" T)) := rfl
@[simp] theorem e_run {n : Nat} {ds : List D} : runD false n F ds = (F (startD n ds)).bind fun r => match r with
  | .rt d => .ok d
  | .nx _ => .ok .non
  | _ => .bad := by unfold runD; rfl
@[simp] theorem e_runF {n : Nat} {ds : List D} : runD true n F ds = (F (startD n ds)).bind fun r => match r with
  | .rt d => .ok d
  | _ => .bad := by
  unfold runD
  congr 1
  funext r
  cases r <;> rfl
@[simp] theorem bind_bind {α β γ : Type} {o : Ou α} {f : α → Ou β} {h : β → Ou γ} : (o.bind f).bind h = o.bind fun a => (f a).bind h := by
  cases o <;> rfl
@[simp] theorem ite_bl {p : Prop} [Decidable p] {q : Bool} : (if p then Ou.ok (D.bl q) else Ou.ok (D.bl false)) = .ok (.bl (decide p && q)) := by
  by_cases h : p <;> simp [h]
@[simp] theorem ite_bl' {p : Prop} [Decidable p] {q : Bool} : (if p then Ou.ok (D.bl true) else Ou.ok (D.bl q)) = .ok (.bl (decide p || q)) := by
  by_cases h : p <;> simp [h]
@[simp] theorem ite_b {p : Prop} [Decidable p] {q : Bool} : (if p then Ou.ok q else Ou.ok false) = .ok (decide p && q) := by
  by_cases h : p <;> simp [h]
@[simp] theorem ite_b' {p : Prop} [Decidable p] {q : Bool} : (if p then Ou.ok true else Ou.ok q) = .ok (decide p || q) := by
  by_cases h : p <;> simp [h]
@[simp] theorem cDiv_ok {i j : Int} (h : 0 < j) (h2 : j < 2 ^ 64) : cDiv i j = true := by simp [cDiv]; lia
@[simp] theorem cMod_ok {i j : Int} (h : 0 < j) : cMod i j = true := by simp [cMod]; lia
@[simp] theorem cMul_l {i j : Int} (h : -(2 ^ 64) < i) (h2 : i < 2 ^ 64) : cMul i j = true := by simp [cMul]; lia
@[simp] theorem cMul_r {i j : Int} (h : -(2 ^ 64) < j) (h2 : j < 2 ^ 64) : cMul i j = true := by simp [cMul]; lia
theorem at_0 {α : Type} {x : α} {r : List α} : atI (x :: r) 0 = some x := by
  unfold atI ixN
  simp
theorem at_nat {α : Type} {xs : List α} {k : Nat} (h : k < xs.length) : atI xs (k : Int) = some xs[k] := by
  unfold atI ixN
  have h1 : (0 : Int) ≤ (k : Int) := by lia
  have h2 : (k : Int) < (xs.length : Int) := by lia
  simp [h1, h2, h]
theorem at_1 {α : Type} {x y : α} {r : List α} : atI (x :: y :: r) 1 = some y := at_nat (xs := x :: y :: r) (k := 1) (by simp)
theorem at_2 {α : Type} {x y z : α} {r : List α} : atI (x :: y :: z :: r) 2 = some z := at_nat (xs := x :: y :: z :: r) (k := 2) (by simp)
theorem at_3 {α : Type} {x y z u : α} {r : List α} : atI (x :: y :: z :: u :: r) 3 = some u := at_nat (xs := x :: y :: z :: u :: r) (k := 3) (by simp)
theorem at_4 {α : Type} {x y z u v : α} {r : List α} : atI (x :: y :: z :: u :: v :: r) 4 = some v := at_nat (xs := x :: y :: z :: u :: v :: r) (k := 4) (by simp)
/-- a turn goes on -/
def Goes (Inv : DS → Prop) (o : Ou Fl) : Prop := ∃ δ2, (o = .ok (.nx δ2) ∨ o = .ok (.ct δ2)) ∧ Inv δ2
theorem Goes.nx {Inv : DS → Prop} {δ : DS} (h : Inv δ) : Goes Inv (.ok (.nx δ)) := ⟨δ, .inl rfl, h⟩
theorem Goes.eq {Inv : DS → Prop} {o : Ou Fl} {δ2 : DS} (e : o = .ok (.nx δ2)) (h : Inv δ2) : Goes Inv o := ⟨δ2, .inl e, h⟩
theorem Goes.ct {Inv : DS → Prop} {δ : DS} (h : Inv δ) : Goes Inv (.ok (.ct δ)) := ⟨δ, .inr rfl, h⟩
theorem forL_goes {g : D → DS → Ou DS} {body : Sm} (Inv : DS → Prop) : ∀ (items : List D) (_ : ∀ d ∈ items, ∀ δ, Inv δ → Goes Inv ((g d δ).bind body)) (δ : DS), Inv δ → ∃ δ', forL g body items δ = .ok (.nx δ') ∧ Inv δ'
  | [], _, δ, h => ⟨δ, rfl, h⟩
  | d :: r, hs, δ, h => by
    obtain ⟨δ2, h1, h2⟩ := hs d List.mem_cons_self δ h
    obtain ⟨δ', h3, h4⟩ := forL_goes Inv r (fun d hd => hs d (List.mem_cons_of_mem _ hd)) δ2 h2
    refine ⟨δ', ?_, h4⟩
    cases e : g d δ with
    | ok δ1 =>
      simp only [forL, e, bind_ok] at h1 ⊢
      rcases h1 with h1 | h1 <;> rw [h1] <;> exact h3
    | ex z => rw [e] at h1; rcases h1 with h1 | h1 <;> cases h1
    | bad => rw [e] at h1; rcases h1 with h1 | h1 <;> cases h1
/-- a loop and what comes behind it -/
theorem For.use {g : D → DS → Ou DS} {body : Sm} {items : List D} {δ : DS} {α : Type} {k : Fl → Ou α} {r : Ou α} (Inv : DS → Prop) (h0 : Inv δ) (hs : ∀ d ∈ items, ∀ δ, Inv δ → Goes Inv ((g d δ).bind body))
    (hd : ∀ δ, Inv δ → k (.nx δ) = r) : (forL g body items δ).bind k = r := by
  obtain ⟨δ', e, q⟩ := forL_goes Inv items hs δ h0
  rw [e]
  exact hd δ' q
/-- the same, with the number of turns -/
theorem forL_goesN {g : D → DS → Ou DS} {body : Sm} (Inv : Nat → DS → Prop) : ∀ (items : List D) (n : Nat) (_ : ∀ i d, items[i]? = some d → ∀ δ, Inv (n + i) δ → Goes (Inv (n + i + 1)) ((g d δ).bind body)) (δ : DS), Inv n δ → ∃ δ', forL g body items δ = .ok (.nx δ') ∧ Inv (n + items.length) δ'
  | [], n, _, δ, h => ⟨δ, rfl, h⟩
  | d :: r, n, hs, δ, h => by
    obtain ⟨δ2, h1, h2⟩ := hs 0 d rfl δ h
    obtain ⟨δ', h3, h4⟩ := forL_goesN Inv r (n + 1) (fun i d hd δ hi => by
      have e : n + 1 + i = n + (i + 1) := by lia
      rw [e] at hi ⊢
      exact hs (i + 1) d (by simpa using hd) δ hi) δ2 h2
    refine ⟨δ', ?_, by
      rw [List.length_cons]
      have e : n + (r.length + 1) = n + 1 + r.length := by lia
      rw [e]; exact h4⟩
    cases e : g d δ with
    | ok δ1 =>
      simp only [forL, e, bind_ok] at h1 ⊢
      rcases h1 with h1 | h1 <;> rw [h1] <;> exact h3
    | ex z => rw [e] at h1; rcases h1 with h1 | h1 <;> cases h1
    | bad => rw [e] at h1; rcases h1 with h1 | h1 <;> cases h1
@[simp] theorem e_nm {i : Nat} {d : D} {δ : DS} : gNm i d δ = .ok (δ.set i (.val d)) := rfl
theorem mem_rng {lo : Int} {n : Nat} {d : D} (h : d ∈ rng lo n) : ∃ k : Nat, k < n ∧ d = .int (lo + (k : Int)) := by
  unfold rng at h
  obtain ⟨k, h1, h2⟩ := List.mem_map.mp h
  exact ⟨k, List.mem_range.mp h1, h2.symm⟩
theorem rng1 {g : D → DS → Ou DS} {F : Sm} {fs : List Fn} {δ : DS} {j : Int} (h : fArgs fs δ = .ok [.int j]) (hj : rOk j = true) : sRng fs g F δ = forL g F (rng 0 j.toNat) δ := by
  simp only [sRng, h, bind_ok, hj, if_true]
theorem Rng.use {g : D → DS → Ou DS} {body : Sm} {fs : List Fn} {δ : DS} {j : Int} {α : Type} {k : Fl → Ou α} {r : Ou α} (h : fArgs fs δ = .ok [.int j]) (hj : rOk j = true) (Inv : DS → Prop) (h0 : Inv δ)
    (hs : ∀ n : Nat, (n : Int) < j → ∀ δ, Inv δ → Goes Inv ((g (.int (n : Int)) δ).bind body)) (hd : ∀ δ, Inv δ → k (.nx δ) = r) : (sRng fs g body δ).bind k = r := by
  rw [rng1 h hj]
  refine For.use Inv h0 (fun d hm δ hi => ?_) hd
  obtain ⟨n, hn, rfl⟩ := mem_rng hm
  have e : (0 : Int) + (n : Int) = (n : Int) := by lia
  rw [e]
  exact hs n (by lia) δ hi
end
end DL
namespace DL
open PySem L2
/-! ### mathematics that many laws share -/
section
@[simp] theorem e_eqS {x y : Str} : gEq (.str x) (.str y) = .ok (.bl (decide (x = y))) := by
  simp [gEq_eq, eqF, rk, toV, eqV]; rfl
@[simp] theorem e_neS {x y : Str} : gNe (.str x) (.str y) = .ok (.bl (!decide (x = y))) := by
  simp [gNe_eq, eqF, rk, toV, eqV]; rfl
end
end DL
namespace DL
open PySem L2
section
@[simp high] theorem e_min' {i j : Int} : gMin [.int i, .int j] = .ok (.int (min i j)) := by
  rw [e_min]; congr 2; by_cases h : j < i <;> simp [h] <;> lia
@[simp high] theorem e_max' {i j : Int} : gMax [.int i, .int j] = .ok (.int (max i j)) := by
  rw [e_max]; congr 2; by_cases h : j > i <;> simp [h] <;> lia
@[simp] theorem e_addI {i j : Int} : gAddI (.int i) (.int j) = .ok (.int (i + j)) := rfl
@[simp] theorem e_subI {i j : Int} : gSubI (.int i) (.int j) = .ok (.int (i - j)) := rfl
end
end DL
namespace DL
open PySem L2
end DL
namespace DL
open PySem L2
/-! ### comprehensions -/
/-! ### rows, item by item -/
inductive Row2 {α : Type} (R : D → α → Prop) : List D → List α → Prop
  | nil : Row2 R [] []
  | cons {d : D} {x : α} {ds : List D} {xs : List α} : R d x → Row2 R ds xs → Row2 R (d :: ds) (x :: xs)
section
variable {α : Type} {R : D → α → Prop}
theorem Row2.len {ds : List D} {xs : List α} (h : Row2 R ds xs) : ds.length = xs.length := by
  induction h with
  | nil => rfl
  | cons _ _ ih => simp [ih]
theorem Row2.drop {ds : List D} {xs : List α} (h : Row2 R ds xs) : ∀ n, Row2 R (ds.drop n) (xs.drop n) := by
  induction h with
  | nil => intro n; simpa using Row2.nil
  | cons a t ih =>
    intro n
    cases n with
    | zero => exact .cons a t
    | succ n => exact ih n
theorem Row2.take {ds : List D} {xs : List α} (h : Row2 R ds xs) : ∀ n, Row2 R (ds.take n) (xs.take n) := by
  induction h with
  | nil => intro n; simpa using Row2.nil
  | cons a t ih =>
    intro n
    cases n with
    | zero => exact .nil
    | succ n => exact .cons a (ih n)
theorem Row2.get {ds : List D} {xs : List α} (h : Row2 R ds xs) {k : Nat} {d : D} (e : ds[k]? = some d) : ∃ x, xs[k]? = some x ∧ R d x := by
  induction h generalizing k with
  | nil => simp at e
  | @cons d' x ds xs a t ih =>
    cases k with
    | zero => simp at e; subst e; exact ⟨x, rfl, a⟩
    | succ k => obtain ⟨x, h1, h2⟩ := ih (by simpa using e); exact ⟨x, by simpa using h1, h2⟩
theorem Row2.rep {d : D} {x : α} (h : R d x) : ∀ n : Nat, Row2 R (List.replicate n d) (List.replicate n x)
  | 0 => .nil
  | n + 1 => .cons h (Row2.rep h n)
end
theorem Rng3.use {g : D → DS → Ou DS} {body : Sm} {fs : List Fn} {δ : DS} {a b c : Int} {α : Type} {k : Fl → Ou α} {r : Ou α} (h : fArgs fs δ = .ok [.int a, .int b, .int c]) (hj : rOk3 a b c = true) (Inv : DS → Prop) (h0 : Inv δ)
    (hs : ∀ n : Int, a ≤ n → n < b → ∀ δ, Inv δ → Goes Inv ((g (.int n) δ).bind body)) (hd : ∀ δ, Inv δ → k (.nx δ) = r) : (sRng3 fs g body δ).bind k = r := by
  have hc : 0 < c := by simp [rOk3] at hj; lia
  have e : sRng3 fs g body δ = forL g body (rngS a c (stepN a b c)) δ := by simp only [sRng3, h, bind_ok, hj, if_true]
  rw [e]
  refine For.use Inv h0 (fun d hm δ hi => ?_) hd
  unfold rngS at hm
  obtain ⟨n, hn, rfl⟩ := List.mem_map.mp hm
  have hn := List.mem_range.mp hn
  have p : 0 ≤ (n : Int) * c := Int.mul_nonneg (by lia) (by lia)
  refine hs _ (by lia) ?_ δ hi
  unfold stepN at hn
  by_cases hab : a < b
  · rw [if_pos hab] at hn
    have h1 : (n : Int) ≤ (b - a - 1) / c := by lia
    have h2 : (n : Int) * c ≤ (b - a - 1) / c * c := Int.mul_le_mul_of_nonneg_right h1 (by lia)
    have h3 : (b - a - 1) / c * c ≤ b - a - 1 := Int.ediv_mul_le _ (by lia)
    lia
  · rw [if_neg hab] at hn; lia
end DL
namespace DL
open PySem L2
/-! ### loops, with what is asked of the whole -/
theorem For.useP {g : D → DS → Ou DS} {body : Sm} {items : List D} {δ : DS} {α : Type} {k : Fl → Ou α} (P : Ou α → Prop) (Inv : Nat → DS → Prop) (h0 : Inv 0 δ) (hs : ∀ i d, items[i]? = some d → i < items.length → ∀ δ, Inv i δ → Goes (Inv (i + 1)) ((g d δ).bind body))
    (hd : ∀ δ, Inv items.length δ → P (k (.nx δ))) : P ((forL g body items δ).bind k) := by
  obtain ⟨δ', e, q⟩ := forL_goesN Inv items 0 (fun i d hd δ hi => by
    rw [Nat.zero_add] at hi ⊢
    exact hs i d hd (List.getElem?_eq_some_iff.mp hd).1 δ hi) δ h0
  rw [e]
  rw [Nat.zero_add] at q
  exact hd δ' q
theorem Rng.useP {g : D → DS → Ou DS} {body : Sm} {fs : List Fn} {δ : DS} {j : Int} {α : Type} {k : Fl → Ou α} (P : Ou α → Prop) (h : fArgs fs δ = .ok [.int j]) (hj : rOk j = true) (Inv : Nat → DS → Prop) (h0 : Inv 0 δ)
    (hs : ∀ n : Nat, (n : Int) < j → ∀ δ, Inv n δ → Goes (Inv (n + 1)) ((g (.int (n : Int)) δ).bind body)) (hd : ∀ δ, Inv j.toNat δ → P (k (.nx δ))) : P ((sRng fs g body δ).bind k) := by
  rw [rng1 h hj]
  refine For.useP P Inv h0 (fun i d hm hi δ hI => ?_) (by rw [rng_len]; exact hd)
  obtain ⟨h1, rfl⟩ := rng_get hm
  have e : (0 : Int) + (i : Int) = (i : Int) := by lia
  rw [e]
  exact hs i (by lia) δ hI
/-- a list that is not empty has a last item -/
theorem snoc {α : Type} : ∀ {xs : List α}, xs ≠ [] → ∃ r x, xs = r ++ [x]
  | [], h => absurd rfl h
  | [x], _ => ⟨[], x, rfl⟩
  | x :: y :: r, _ => by
    obtain ⟨r', z, e⟩ := snoc (xs := y :: r) (by simp)
    exact ⟨x :: r', z, by rw [e]; rfl⟩
end DL
namespace DL
open PySem L2
/-! ### a value is equal to itself -/
theorem zipO_mono {f f' : D → D → Option Bool} (hf : ∀ x y b, f x y = some b → f' x y = some b) : ∀ {xs ys : List D} {bs : List Bool}, zipO f xs ys = some bs → zipO f' xs ys = some bs
  | [], _, _, h => by simpa [zipO] using h
  | x :: xs, [], _, h => by simpa [zipO] using h
  | x :: xs, y :: ys, bs, h => by
    simp only [zipO] at h ⊢
    cases e : f x y with
    | none => rw [e] at h; cases h
    | some b =>
      rw [e] at h
      rw [hf x y b e]
      cases e2 : zipO f xs ys with
      | none => rw [e2] at h; cases h
      | some bs' => rw [e2] at h; rw [zipO_mono hf e2]; exact h
theorem eqF_mono {f f' : D → D → Option Bool} (hf : ∀ x y b, f x y = some b → f' x y = some b) {x y : D} {b : Bool} (h : eqF f x y = some b) : eqF f' x y = some b := by
  unfold eqF at h ⊢
  split at h <;> try exact h
  · unfold eqT at h ⊢
    cases e : zipO f (its x) (its y) with
    | none => rw [e] at h; cases h
    | some bs => rw [e] at h; rw [zipO_mono hf e]; exact h
  · unfold eqL at h ⊢
    by_cases hl : (its x).length = (its y).length
    · rw [if_pos hl] at h ⊢
      cases e : zipO f (its x) (its y) with
      | none => rw [e] at h; cases h
      | some bs => rw [e] at h; rw [zipO_mono hf e]; exact h
    · rw [if_neg hl] at h ⊢; exact h
theorem eqD_mono1 : ∀ (n : Nat) {x y : D} {b : Bool}, eqD n x y = some b → eqD (n + 1) x y = some b
  | 0, _, _, _, h => nomatch h
  | n + 1, _, _, _, h => eqF_mono (f := eqD n) (fun _ _ _ z => eqD_mono1 n z) h
theorem eqD_mono {n m : Nat} (h : n ≤ m) {x y : D} {b : Bool} (e : eqD n x y = some b) : eqD m x y = some b := by
  induction h with
  | refl => exact e
  | step _ ih => exact eqD_mono1 _ ih
/-- == tells True of it and itself, and goes no deeper than n -/
def Self (n : Nat) (x : D) : Prop := eqD n x x = some true
theorem Self.mono {n m : Nat} {x : D} (h : Self n x) (hm : n ≤ m) : Self m x := eqD_mono hm h
theorem Self.int (i : Int) : Self 1 (.int i) := by show eqF _ _ _ = _; simp [eqF, rk, toV, eqV]
theorem Self.str (i : Str) : Self 1 (.str i) := by show eqF _ _ _ = _; simp [eqF, rk, toV, eqV]
theorem Self.bl (i : Bool) : Self 1 (.bl i) := by show eqF _ _ _ = _; simp [eqF, rk, toV, eqV]
theorem Self.non : Self 1 .non := rfl
theorem zip_self {n : Nat} : ∀ {xs : List D}, (∀ x ∈ xs, Self n x) → zipO (eqD n) xs xs = some (xs.map fun _ => true)
  | [], _ => rfl
  | x :: xs, h => by
    have h1 : eqD n x x = some true := h x List.mem_cons_self
    simp [zipO, h1, zip_self fun y hy => h y (List.mem_cons_of_mem _ hy)]
theorem Self.tup {n : Nat} {xs : List D} (h : ∀ x ∈ xs, Self n x) : Self (n + 1) (.tup xs) := by
  show eqF (eqD n) _ _ = _
  simp [eqF, rk, its, eqT, zip_self h]
theorem Self.lst {n : Nat} {xs : List D} (h : ∀ x ∈ xs, Self n x) : Self (n + 1) (.lst xs) := by
  show eqF (eqD n) _ _ = _
  simp [eqF, rk, its, eqL, zip_self h]
theorem Self.eq {n : Nat} {x : D} (h : Self n x) (hn : n ≤ 60) : gEq x x = .ok (.bl true) := by
  have e : eqD 60 x x = some true := eqD_mono hn h
  unfold gEq
  rw [e]
theorem Self.ne {n : Nat} {x : D} (h : Self n x) (hn : n ≤ 60) : gNe x x = .ok (.bl false) := by
  have e : eqD 60 x x = some true := eqD_mono hn h
  unfold gNe
  rw [e]; rfl
end DL
namespace DL
open PySem L2
theorem mod_lt (c : Int) {m : Int} (h : 0 < m) : 0 ≤ c % m ∧ c % m < m := ⟨Int.emod_nonneg _ (by lia), Int.emod_lt_of_pos _ h⟩
end DL
namespace DL
open PySem L2
@[simp] theorem e_mulB {i j : Int} : gMulB (.int i) (.int j) = if cMulB i j = true then .ok (.int (i * j)) else .bad := rfl
end DL
namespace DL
/-! ### lists of a known length -/
theorem len0 {α : Type} {P : List α → Prop} (h : P []) : ∀ us, us.length = 0 → P us
  | [], _ => h
theorem len1 {α : Type} {P : List α → Prop} (h : ∀ a, P [a]) : ∀ us, us.length = 1 → P us
  | [a], _ => h a
theorem len2 {α : Type} {P : List α → Prop} (h : ∀ a b, P [a, b]) : ∀ us, us.length = 2 → P us
  | [a, b], _ => h a b
theorem len3 {α : Type} {P : List α → Prop} (h : ∀ a b c, P [a, b, c]) : ∀ us, us.length = 3 → P us
  | [a, b, c], _ => h a b c
theorem len4 {α : Type} {P : List α → Prop} (h : ∀ a b c d, P [a, b, c, d]) : ∀ us, us.length = 4 → P us
  | [a, b, c, d], _ => h a b c d
theorem len5 {α : Type} {P : List α → Prop} (h : ∀ a b c d e, P [a, b, c, d, e]) : ∀ us, us.length = 5 → P us
  | [a, b, c, d, e], _ => h a b c d e
end DL
namespace DL
/-! ### steps through a body, one by one (their proofs are small) -/
section
variable {ga : DS → Ou Bool} {fa : Fn} {F G : Sm} {δ : DS} {b : Bool} {d : D} {i : Nat} {j w : Int}
theorem set_to (hd : fa δ = .ok d) : sSeq (sSet i fa) G δ = G (δ.set i (.val d)) := by
  show ((fa δ).bind _).bind _ = _
  rw [hd]; rfl
theorem run_rt {n : Nat} {ds : List D} (h : F (startD n ds) = .ok (.rt d)) : runD false n F ds = .ok d := by
  unfold runD
  rw [h]; rfl
end
end DL
namespace Bt
/-! ### blocks of two to the n -/
end Bt
namespace Tr
open DL
/-! ### trees of deeds over stretches of time -/
abbrev all : Nat := 1073741824
inductive T
  | lf (a : Nat) (d : D)
  | nd (q k : Nat) (l r : T)
namespace T
def q : T → Nat
  | lf a _ => a
  | nd q _ _ _ => q
/-- the exponent of the size -/
def e : T → Nat
  | lf _ _ => 0
  | nd _ k _ _ => k + 1
def lo (t : T) : Nat := t.q * 2 ^ t.e
def sz (t : T) : Nat := 2 ^ t.e
def ds : T → List (Nat × D)
  | lf a d => [(a, d)]
  | nd _ _ l r => l.ds ++ r.ds
end T
/-- a knot has a deed in each half of its stretch, and is among the times -/
inductive Good : T → Prop
  | lf {a : Nat} {d : D} : a < all → Good (.lf a d)
  | nd {q k : Nat} {l r : T} : Good l → Good r → q * 2 ^ (k + 1) ≤ l.lo → l.lo + l.sz ≤ q * 2 ^ (k + 1) + 2 ^ k → q * 2 ^ (k + 1) + 2 ^ k ≤ r.lo → r.lo + r.sz ≤ q * 2 ^ (k + 1) + 2 ^ (k + 1) → q * 2 ^ (k + 1) + 2 ^ (k + 1) ≤ all → Good (.nd q k l r)
/-- the knot of two that stand apart -/
def mk (l r : T) : T := .nd (l.lo / 2 ^ Bt.bits (l.lo ^^^ r.lo)) (Bt.bits (l.lo ^^^ r.lo) - 1) l r
theorem Good.up {t : T} (h : Good t) : t.lo + t.sz ≤ all := by
  cases h with
  | lf h => simp [T.lo, T.sz, T.q, T.e]; lia
  | nd _ _ _ _ _ _ h => exact h
/-! the times of a tree -/
theorem times_in {t : T} (h : Good t) : ∀ p ∈ t.ds, t.lo ≤ p.1 ∧ p.1 < t.lo + t.sz := by
  induction h with
  | lf h => intro p hp; simp [T.ds] at hp; subst hp; simp [T.lo, T.sz, T.q, T.e]
  | @nd q k l r hl hr h1 h2 h3 h4 h5 ihl ihr =>
    intro p hp
    have pk := Nat.two_pow_pos k
    have e2 : 2 ^ (k + 1) = 2 ^ k * 2 := Nat.pow_succ ..
    show q * 2 ^ (k + 1) ≤ p.1 ∧ p.1 < q * 2 ^ (k + 1) + 2 ^ (k + 1)
    rcases List.mem_append.mp hp with hp | hp
    · have := ihl p hp; lia
    · have := ihr p hp; lia
theorem ds_sorted {t : T} (h : Good t) : t.ds.Pairwise (fun a b => a.1 < b.1) := by
  induction h with
  | lf h => simp [T.ds]
  | nd hl hr h1 h2 h3 h4 h5 ihl ihr =>
    unfold T.ds
    rw [List.pairwise_append]
    refine ⟨ihl, ihr, fun a ha b hb => ?_⟩
    have := times_in hl a ha
    have := times_in hr b hb
    lia
/-! a deed put in -/
def insK (a : Nat) (d : D) : List (Nat × D) → List (Nat × D)
  | [] => [(a, d)]
  | p :: r => if a < p.1 then (a, d) :: p :: r else p :: insK a d r
def put (a : Nat) (d : D) : T → Option T
  | .lf b e => if a < b then some (mk (.lf a d) (.lf b e)) else if b < a then some (mk (.lf b e) (.lf a d)) else none
  | .nd q k l r => if a < q * 2 ^ (k + 1) then some (mk (.lf a d) (.nd q k l r)) else if q * 2 ^ (k + 1) + 2 ^ (k + 1) ≤ a then some (mk (.nd q k l r) (.lf a d))
    else if a < q * 2 ^ (k + 1) + 2 ^ k then (put a d l).map fun l' => mk l' r else (put a d r).map fun r' => mk l r'
/-- the stretch of t lies within that block -/
def Within (t : T) (Q n : Nat) : Prop := Q * 2 ^ n ≤ t.lo ∧ t.lo + t.sz ≤ Q * 2 ^ n + 2 ^ n
structure PutOk (a : Nat) (d : D) (t t' : T) : Prop where
  eq : put a d t = some t'
  good : Good t'
  ds : t'.ds = insK a d t.ds
  win : ∀ Q n, Within t Q n → a / 2 ^ n = Q → Within t' Q n
end Tr
namespace Tr
open DL
/-! ### what a tree has in a block, and ahead of a number -/
instance (t : T) (Q n : Nat) : Decidable (Within t Q n) := by unfold Within; infer_instance
def insT (Q n : Nat) : T → Option T
  | .lf a d => if Within (.lf a d) Q n then some (.lf a d) else none
  | .nd q k l r => if Within (.nd q k l r) Q n then some (.nd q k l r)
    else if q * 2 ^ (k + 1) ≤ Q * 2 ^ n ∧ Q * 2 ^ n + 2 ^ n ≤ q * 2 ^ (k + 1) + 2 ^ k then insT Q n l
    else if q * 2 ^ (k + 1) + 2 ^ k ≤ Q * 2 ^ n ∧ Q * 2 ^ n + 2 ^ n ≤ q * 2 ^ (k + 1) + 2 ^ (k + 1) then insT Q n r else none
def dsO : Option T → List (Nat × D)
  | some t => t.ds
  | none => []
/-- the cover of an end: blocks, the greatest first -/
def cov : Nat → Nat → Nat → List (Nat × Nat)
  | 0, _, _ => []
  | r + 1, lo, e => if lo + 2 ^ r ≤ e then (lo / 2 ^ r, r) :: cov r (lo + 2 ^ r) e else cov r lo e
end Tr
namespace Tr
open DL
/-! ### a tree as the program keeps it -/
section
variable {τ : Type} (en : τ → D) (lone : Nat → D → τ) (join : τ → τ → τ)
def tv : T → τ
  | .lf a d => lone a d
  | .nd _ _ l r => join (tv l) (tv r)
def enc : T → D
  | .lf a d => .tup [.int (a : Int), .int 1, en (lone a d), d]
  | .nd q k l r => .tup [.int ((q * 2 ^ (k + 1) : Nat) : Int), .int ((2 ^ (k + 1) : Nat) : Int), en (join (tv lone join l) (tv lone join r)), enc l, enc r]
def encO : Option T → D
  | some t => enc en lone join t
  | none => .non
theorem depth {t : T} (h : Good t) : t.e ≤ 30 := by
  refine Nat.le_of_not_lt fun z => ?_
  have u := h.up
  have : (2 : Nat) ^ 31 ≤ 2 ^ t.e := Nat.pow_le_pow_right (by decide) z
  have h31 : (2 : Nat) ^ 31 = 2147483648 := by decide
  have : t.sz = 2 ^ t.e := rfl
  have : all = 1073741824 := rfl
  lia
end
end Tr
namespace Tr
open DL PySem
/-! ### a book as a dict, and its tree -/
theorem insK_perm {a : Nat} {d : D} : ∀ l : List (Nat × D), (insK a d l).Perm ((a, d) :: l)
  | [] => .refl _
  | p :: l => by
    simp only [insK]
    split
    · exact .refl _
    · exact ((insK_perm l).cons p).trans (.swap ..)
/-- as Python's dict keeps it: in the order of writing -/
def bkeys (al : List (Nat × D)) : List L2.Key := al.map fun p => .inl (p.1 : Int)
def dict (al : List (Nat × D)) : D := .dic (bkeys al) (al.map (·.2))
/-- the book and its tree -/
structure Book (al : List (Nat × D)) (o : Option T) : Prop where
  good : match o with | some t => Good t | none => True
  perm : (dsO o).Perm al
theorem Book.sorted {al : List (Nat × D)} {o : Option T} (b : Book al o) : (dsO o).Pairwise (fun x y => x.1 < y.1) := by
  cases o with
  | none => exact .nil
  | some t => exact ds_sorted b.good
theorem Book.sort {al : List (Nat × D)} {o : Option T} (b : Book al o) (hl : al.length < 64) : gSortD (dict al) = .ok (.lst (((dsO o).map fun p => (p.1 : Int)).map D.int)) := by
  have e : bkeys al = (al.map fun p => (p.1 : Int)).map Sum.inl := by simp [bkeys]
  have hk := keysI_map (al.map fun p => (p.1 : Int))
  have hs : (dsO o).map (fun p => (p.1 : Int)) = isort (al.map fun p => (p.1 : Int)) := by
    refine isort_uniq (b.perm.map _) ?_
    rw [List.pairwise_map]
    exact b.sorted.imp fun h => by lia
  simp only [gSortD, dict]
  rw [e, hk, hs]
  simp [hl]
theorem Book.put {al : List (Nat × D)} {o : Option T} (b : Book al o) {a : Nat} {d : D} {t : T} (hg : Good t) (hd : t.ds = insK a d (dsO o)) : Book (al ++ [(a, d)]) (some t) := by
  refine ⟨hg, ?_⟩
  show t.ds.Perm _
  rw [hd]
  exact (insK_perm _).trans ((b.perm.cons _).trans (List.perm_append_singleton ..).symm)
end Tr
namespace Tr
open DL
/-! ### a tree is told by its deeds -/
end Tr
namespace Tr
open DL
/-! ### a deed taken out -/
def left2 : Option T → Option T → Option T
  | none, r => r
  | l, none => l
  | some l, some r => some (mk l r)
def out (a : Nat) : T → Option (Option T)
  | .lf b _ => if a = b then some none else none
  | .nd q k l r => if a < q * 2 ^ (k + 1) ∨ q * 2 ^ (k + 1) + 2 ^ (k + 1) ≤ a then none
    else if a < q * 2 ^ (k + 1) + 2 ^ k then (out a l).map fun l' => left2 l' (some r) else (out a r).map fun r' => left2 (some l) r'
def but (a : Nat) (l : List (Nat × D)) : List (Nat × D) := l.filter fun p => decide (p.1 ≠ a)
structure OutOk (a : Nat) (t : T) (o : Option T) : Prop where
  eq : out a t = some o
  good : ∀ s, o = some s → Good s
  ds : dsO o = but a t.ds
  win : ∀ s, o = some s → ∀ Q n, Within t Q n → Within s Q n
end Tr
namespace DL
open PySem PySem.Spec PyProof.Rows L2
/-! ### x not in a list of any items; pairs of numbers by < -/
section
variable {X : Cx}
def pairI : D → Option (Int × Int)
  | .tup [.int a, .int b] => some (a, b)
  | _ => none
def gLtP (x y : D) : Ou D := match pairI x, pairI y with
  | some p, some q => .ok (.bl (Tim.plt p q))
  | _, _ => .bad
def rLtP (K : PySem.W.Frag) : R2 := fun x y H Q => ∃ p q, PrV K H x p ∧ PrV K H y q ∧ Q (.bl (Tim.plt p q)) H
end
@[simp] theorem e_ltP {a b c d : Int} : gLtP (.tup [.int a, .int b]) (.tup [.int c, .int d]) = .ok (.bl (Tim.plt (a, b) (c, d))) := rfl
end DL
namespace DL
open PySem PySem.Spec PyProof.Rows L2
/-! ### a comprehension over range(a, b, -1) -/
section
variable {X : Cx} {elt tg : Expr} {ifs : List Expr} {scope : Scope} {N' : List Str} {k : Nat} {ix : List Nat} {pos : Pos} {g : D → DS → Ou DS} {gc : DS → Ou Bool} {fe fl fl2 fl3 : Fn} {a b c : Expr} {p : Pos}
def rOkD (a : Int) : Bool := decide (-1000000000 ≤ a ∧ a ≤ 1000000000)
def downN (a b : Int) : Nat := (a - b).toNat
def iRngD (ta : TA) : TI := fun σ H R => ta σ H fun vs H1 => ∃ i j : Int, vs = [.int i, .int j, .int (-1)] ∧ (rOkD i = true ∧ rOkD j = true) ∧ R (Its i (-1) (downN i j)) H1
def fRangeD (fs : List Fn) : DS → Ou (List D) := fun δ => (fArgs fs δ).bind fun ds => match ds with
  | [.int i, .int j, .int (-1)] => if rOkD i = true ∧ rOkD j = true then .ok (rngS i (-1) (downN i j)) else .bad
  | _ => .bad
end
end DL
namespace DL
open PySem PySem.Spec PyProof.Rows L2
/-! ### an error that leaves a def: how it lies behind a call -/
/-- B has all that H' tracks and all that stood in h, as it is in h', the frames apart -/
def Hold (fs : List Addr) (H' : Hp) (h h' B : Heap) : Prop := ∀ b o, h'.get? b = some o → (H' b ≠ none ∨ ∃ o0, h.get? b = some o0) → b ∉ fs → B.get? b = some o
def CX1 (P : Program) (w : World) : CXT := fun outer H s E e s' => ∃ (ea C : Addr) (H' : Hp) (B : Heap) (a0 : Value), e = .ref ea ∧ s'.os = s.os ∧ AllBare s'.gens ∧ Un (frs outer) [] H H' s.heap s'.heap ∧ HOk P w H' s'.heap ∧
  Hold (frs outer) H' s.heap s'.heap B ∧ Heap.FlyingW B outer ea (.ref C) a0 s'.heap ∧ E (.ref C) none H'
section
variable {P : Program} {w : World} {H H₀ H' : Hp} {h h0 h1 h2 B : Heap} {outer : List Env}
end
section
variable {P : Program} {w : World} {K : PySem.W.Frag} {mg : Str → Option Value} {base : Heap} {N : List Str} {qual : Str} {scope : Scope} {f : Addr} {cd : Value} {A : Around} {outer : List Env} {s : Shared} {H : Hp} {E : XK}
end
end DL
namespace DL
open PySem PySem.Spec PyProof.Rows L2
/-! ### defs that may raise -/
def spX (K : PySem.W.Frag) (fr : Bool) (n : Nat) (mm : List D → Ou D) : Sp := fun vs H Q E => ∃ (B : Addr → Prop) (ds : List D), ds.length = n ∧ Reps K B H ds vs ∧
  Res K E H (mm ds) fun d => ∀ v H', Same H H' → RtP K (fun a => B a ∨ H a = none) H fr d v H' → Q v H'
structure DfX (P : Program) (w : World) (K : PySem.W.Frag) (mg : Str → Option Value) (base : Heap) (x : Str) (k : Nat) (ps : List Str) (fr : Bool) (mm : List D → Ou D) : Prop where
  ex : ∃ f fd, FnOk P w K mg base (CX1 P w) k f fd ps (spX K fr ps.length mm) ∧ Binds K fd ps [] ∧ PySem.W.keepIn K (.ref f) = true ∧ mg x = some (.ref f)
section
variable {P : Program} {w : World} {K : PySem.W.Frag} {mg : Str → Option Value} {base : Heap}
theorem DfX.mono {x : Str} {j k : Nat} {ps : List Str} {fr : Bool} {mm : List D → Ou D} (h : DfX P w K mg base x j ps fr mm) (hj : j ≤ k) : DfX P w K mg base x k ps fr mm := by
  obtain ⟨f, fd, h1, h2⟩ := h.ex
  exact ⟨f, fd, h1.mono hj, h2⟩
end
/-! ### what can't raise, where something may -/
def noex {α : Type} : Ou α → Ou α
  | .ex _ => .bad
  | o => o
@[simp] theorem noex_ok {α : Type} (a : α) : noex (Ou.ok a) = .ok a := rfl
@[simp] theorem noex_bad {α : Type} : noex (Ou.bad : Ou α) = .bad := rfl
def nx {α : Type} (f : DS → Ou α) : DS → Ou α := fun δ => noex (f δ)
theorem Res.noex {α : Type} {K : PySem.W.Frag} {E E' : XK} {H₀ H1 : Hp} {o : Ou α} {k : α → Prop} (h : Res K E H₀ (DL.noex o) k) : Res K E' H1 o k := by
  cases o with
  | ok a => exact h
  | ex e => exact h.elim
  | bad => exact h
section
variable {X : Cx} {E : XK} {m : Md} {a e : Expr} {es : List Expr} {fa fe : Fn} {fs : List Fn} {g : DS → Ou Bool} {fr : Rm} {F G : Sm} {st : Stmt} {sts : List Stmt} {p pos : Pos} {x : Str} {ps : List Str} {k : Nat} {mm : List D → Ou D}
end
/-! ### a text that is put together (what it is, is forgotten) -/
/-- the parts: g tells how long they are at most -/
def PJ (X : Cx) (es : List Expr) (g : DS → Ou Nat) : Prop := ∀ (out : Str) (pins : List (Addr × Obj)) (s : Shared) (σ : St) (H : Hp) (Q : Value → Shared → Prop), Inv X pins σ H s → (∃ c δ n, c.K = X.K ∧ Abs c σ δ H ∧ g δ = .ok n ∧ out.length + n ≤ sizeLine) →
  (∀ x t s' H', Same H H' → Inv X pins σ H' s' → Q (.str x t) s') → wpAny (model X.prog X.w) X.A (joinParts out (evalEach es X.env)) Q X.xe s
def jNil : DS → Ou Nat := fun _ => .ok 0
def jC (n : Nat) (g : DS → Ou Nat) : DS → Ou Nat := fun δ => (g δ).bind fun k => .ok (n + k)
def jI (f : Fn) (g : DS → Ou Nat) : DS → Ou Nat := fun δ => (f δ).bind fun d => match d with
  | .int i => if -(2 ^ 64 : Int) < i ∧ i < 2 ^ 64 then (g δ).bind fun k => .ok (2000 + k) else .bad
  | _ => .bad
section
variable {X : Cx} {e : Expr} {es : List Expr} {f : Fn} {g : DS → Ou Nat} {pos : Pos}
end
/-! ### raise C(text) -/
def sRaise (x : Str) (g : DS → Ou Nat) : Sm := fun δ => (noex (g δ)).bind fun n => if n ≤ 100000 then .ex ⟨x, []⟩ else .bad
/-- what is known of a class of errors under ValueError -/
structure ExcC (K : PySem.W.Frag) (mg : Str → Option Value) (x : Str) (C : Addr) : Prop where
  ns : PySem.W.nsIn K mainGlobals x = some (some (.ref C))
  bound : mg x = some (.ref C)
  own : PySem.W.excIn K C [.type "ValueError", .type "Exception", .type "BaseException", .type "object"] "ValueError.__new__" = true
section
variable {P : Program} {w : World} {K : PySem.W.Frag} {mg : Str → Option Value} {base : Heap} {N : List Str} {qual : Str} {scope : Scope} {f : Addr} {cd : Value} {A : Around} {outer : List Env} {s : Shared} {H : Hp} {E : XK} {fr : Rm}
end
end DL
namespace DL
open PySem PySem.Spec PyProof.Rows L2
/-! ### try: a call that may raise; one clause -/
section
variable {X : Cx} {pins : List (Addr × Obj)} {σ : St} {H H1 H' : Hp} {s s1 s' : Shared} {B : Heap} {ea : Addr} {cls a0 : Value}
/-- a name goes -/
theorem goes_ok {M : Model} {A : Around} {E : Value → Shared → Prop} {i : Nat} {n : Str} {pos : Pos} {Q : Unit → Shared → Prop} (I : Inv X pins σ H s) (hN : X.N.Nodup) (hi : X.N[i]? = some n) (hk : X.env.scope.names.lookup n = some .local)
    (h : ∀ s', Inv X pins (σ.set i none) H s' → Q () s') : wpAny M A (do bindName X.env n .none; unbindBehindTheSuite X.env n pos) Q E s := by
  obtain ⟨m, hn, hl⟩ := id I.loc
  have hcls : (X.env.scope.kind == .class || (X.env.scope.kind == .module && X.env.locals != X.env.globals)) = false := by rw [I.ok.kind]; rfl
  have hiσ : i < σ.length := by rw [I.len]; exact (List.getElem?_eq_some_iff.mp hi).1
  have cne := I.cne
  refine wpAny_nameGoes_keeps hk hn hcls fun h' v hn' hs => ?_
  obtain ⟨oL, _, _, hoL, _⟩ := id hn
  have tracked : HOk X.prog X.w H h' := fun b ob e => by
    refine (I.hok b ob e).stay (fun c w' hc q => (hs.2 c ?_).trans q) (fun _ q => q) fun _ _ q => q
    rintro rfl
    rcases hc with hc | hc
    · rw [← hc, I.free] at e; cases e
    · rw [I.free] at hc; cases hc
  refine h _ ⟨I.ok, I.os, I.bare, ⟨fun b o e n hb hx => ?_, fun b o e n hb hx => ?_, I.base.free, fun b o e hx => ?_, I.base.tups, I.base.frzs, I.base.tbls⟩, ⟨_, hn', fun j y v' e1 e2 e3 => ?_⟩, fun y c e => ?_, I.free, I.freeC, fun p hp => ?_, tracked, by simpa using I.len⟩
  · exact (hs.2 b (Nat.ne_of_lt (Nat.lt_of_lt_of_le (Heap.lt_size e) I.ok.above))).trans (I.base.keep b o e n hb hx)
  · obtain ⟨sl, e1⟩ := I.base.slot b o e n hb hx
    exact ⟨sl, (hs.2 b (Nat.ne_of_lt (Nat.lt_of_lt_of_le (Heap.lt_size e) I.ok.above))).trans e1⟩
  · obtain ⟨o', e1⟩ := I.base.there b o e hx
    exact ⟨o', (hs.2 b (Nat.ne_of_lt (Nat.lt_of_lt_of_le (Heap.lt_size e) I.ok.above))).trans e1⟩
  · by_cases hj : j = i
    · subst hj
      rw [List.getElem?_set_self hiσ] at e2
      cases e2
    · rw [List.getElem?_set_ne (Ne.symm hj)] at e2
      obtain ⟨u', r', q⟩ := hl j y v' e1 e2 e3
      refine ⟨u', r', ?_⟩
      rcases q with ⟨k, e⟩ | ⟨k, c, e, z⟩
      · refine .inl ⟨k, ?_⟩
        have : y ≠ n := fun e => hj (nodup_ix hN e1 (e ▸ hi))
        simp [this, e]
      · exact .inr ⟨k, c, e, z.sameBut hs (cne y c e)⟩
  · obtain ⟨w', z⟩ := I.cell y c e
    exact ⟨w', z.sameBut hs (cne y c e)⟩
  · obtain ⟨e, n, ne, nf, d⟩ := I.pin p hp
    exact ⟨(hs.2 p.1 ne).trans e, n, ne, nf, d⟩
/-- a thing that stands apart from all that is known becomes known -/
theorem Inv.track {a : Addr} {o : HO} (I : Inv X pins σ H s) (hn : H a = none) (hl : a ≠ X.env.locals) (hc : ∀ x c, X.env.cells.lookup x = some c → c ≠ a) (hp : ∀ p ∈ X.pn ++ pins, p.1 ≠ a) (h0 : X.s₀.heap.get? a = none) (new : ObjOk X.prog X.w (upd H a o) s.heap a o) : Inv X pins σ (upd H a o) s := by
  have ne : ∀ b, H b ≠ none → b ≠ a := fun b hb e => hb (by rw [e]; exact hn)
  refine ⟨I.ok, I.os, I.bare, ⟨I.base.keep, I.base.slot, fun b ob e n hx => ?_, I.base.there, fun b xs e => ?_, fun b ob u e => ?_, fun b ps e => ?_⟩, I.loc, I.cell, ?_, fun x c e => ?_, fun p hpp => ?_, fun b ob e => ?_, I.len⟩
  · rw [upd_ne (fun z => by rw [z, h0] at e; cases e)]
    exact I.base.free b ob e n hx
  · have := I.base.tups b xs e
    rw [upd_ne (ne b (by rw [this]; simp))]; exact this
  · have := I.base.frzs b ob u e
    rw [upd_ne (ne b (by rw [this]; simp))]; exact this
  · obtain ⟨more, this⟩ := I.base.tbls b ps e
    exact ⟨more, by rw [upd_ne (ne b (by rw [this]; simp))]; exact this⟩
  · rw [upd_ne (Ne.symm hl)]; exact I.free
  · rw [upd_ne (hc x c e)]; exact I.freeC x c e
  · obtain ⟨e, n, r⟩ := I.pin p hpp
    exact ⟨e, by rw [upd_ne (hp p hpp)]; exact n, r⟩
  · by_cases hb : b = a
    · subst hb; rw [upd_same] at e; cases e; exact new
    · rw [upd_ne hb] at e
      exact (I.hok b ob e).stay (fun c v _ q => q) (fun c q => by rw [upd_ne (ne c (by rw [q]; simp))]; exact q) fun c xs q => by rw [upd_ne (ne c (by rw [q]; simp))]; exact q
/-- the context within a clause -/
abbrev Cx.suite (X : Cx) (e : Addr) : Cx := { X with A := X.A.mark (some (.ref e)), calm := false, xe := fun _ _ => False }
theorem suite_ok (ok : X.Ok) (e : Addr) : (Cx.suite X e).Ok := ⟨ok.mod, ok.kind, ok.glob, ok.blt, ok.above, ok.inj, ok.has, ok.cab, fun z => (by cases z), ok.frames, ok.stk, ok.exf, ok.bs, ok.bsz, ok.noex, ok.exfs, ok.funs, ok.frf⟩
theorem Inv.suite (I : Inv X pins σ H s) (e : Addr) : Inv (Cx.suite X e) pins σ H s := ⟨suite_ok I.ok e, I.os, I.bare, I.base, I.loc, I.cell, I.free, I.freeC, I.pin, I.hok, I.len⟩
theorem Inv.unsuite {e : Addr} (ok : X.Ok) (I : Inv (Cx.suite X e) pins σ H s) : Inv X pins σ H s := ⟨ok, I.os, I.bare, I.base, I.loc, I.cell, I.free, I.freeC, I.pin, I.hok, I.len⟩
end
section
variable {X : Cx} {pins : List (Addr × Obj)} {σ : St} {H1 : Hp} {s1 s' : Shared} {Ec : XK} {e : Value} {y : Str} {Y : Addr} {np hp : Pos} {b₀ : Stmt} {suite : List Stmt} {nm : Option Str} {Q : Flow → Shared → Prop} {E : Value → Shared → Prop}
/-- the error is in the heap, apart from all that is known -/
structure Apart (X : Cx) (pins : List (Addr × Obj)) (σ : St) (H' : Hp) (s : Shared) (ea C : Addr) : Prop where
  inv : Inv X pins σ H' s
  at_ : ∃ o vs, s.heap.get? ea = some o ∧ o.cls = .ref C ∧ o.data = .fields vs
  free : H' ea = none
  loc : ea ≠ X.env.locals
  cel : ∀ x c, X.env.cells.lookup x = some c → c ≠ ea
  pin : ∀ p ∈ X.pn ++ pins, p.1 ≠ ea
  old : X.s₀.heap.get? ea = none
end
def sTry (hit : Str → Bool) (mm : List D → Ou D) (fs : List Fn) (S O : Sm) : Sm := fun δ => (noex (fArgs fs δ)).bind fun ds => match mm ds with
  | .ok _ => O δ
  | .ex e => if hit e.cls = true then S δ else .bad
  | .bad => .bad
/-- the error's name is bound in the clause, and gone behind it -/
def asNm (i : Nat) (c : Str) (S : Sm) : Sm := fun δ => (S (δ.set i (.val (.exc c [] [])))).bind fun r => match r with
  | .nx δ' => .ok (.nx (δ'.set i .un))
  | .rt d => .ok (.rt d)
  | _ => .bad
def sTryAs (i : Nat) (hit : Str → Bool) (mm : List D → Ou D) (fs : List Fn) (S O : Sm) : Sm := fun δ => (noex (fArgs fs δ)).bind fun ds => match mm ds with
  | .ok _ => O δ
  | .ex e => if hit e.cls = true then asNm i e.cls S δ else .bad
  | .bad => .bad
section
variable {X : Cx} {x y : Str} {Y : Addr} {k : Nat} {ps : List Str} {mm : List D → Ou D} {fs : List Fn} {e : Expr} {es : List Expr} {p cpos epos np hp pos : Pos} {b₀ : Stmt} {suite orelse : List Stmt} {fr : Rm} {S O : Sm} {hit : Str → Bool}
theorem Abs.unset {c : Cn} {σ : St} {δ : DS} {H : Hp} (i : Nat) (a : Abs c σ δ H) : Abs c (σ.set i none) (δ.set i .un) H := by
  have oi : ∀ {q}, Own (σ.set i none) (δ.set i .un) q → Own σ δ q := fun {q} o => by
    obtain ⟨j, es, z1, z2⟩ := o
    rcases get_set z1 with ⟨_, w, _⟩ | ⟨ne, z1⟩
    · cases w
    · rw [set_ne ne] at z2
      exact ⟨j, es, z1, z2⟩
  have av : ∀ q, Av c σ δ q → Av c (σ.set i none) (δ.set i .un) q := fun q z => ⟨z.1, fun o => z.2 (oi o)⟩
  refine ⟨a.same, a.fr, by rw [List.length_set, List.length_set]; exact a.len, fun j d' h => ?_, fun j ds h => ?_, fun d' v' h => (a.gho d' v' h).weak av, fun j k dj dk p h1 h2 h3 h4 => ?_, fun j p hP d' h => ?_⟩
  · rcases get_set h with ⟨rfl, z, hl⟩ | ⟨ne, h⟩
    · cases z
    · obtain ⟨u, h1, h2⟩ := a.val j d' h
      exact ⟨u, by rw [set_ne ne]; exact h1, h2.weak av⟩
  · rcases get_set h with ⟨rfl, z, hl⟩ | ⟨ne, h⟩
    · cases z
    · obtain ⟨p, xs, h1, h2, h3, h4⟩ := a.own j ds h
      exact ⟨p, xs, by rw [set_ne ne]; exact h1, h2, h3, h4.weak av⟩
  · rcases get_set h1 with ⟨_, z, _⟩ | ⟨n1, h1⟩
    · cases z
    rcases get_set h2 with ⟨_, z, _⟩ | ⟨n2, h2⟩
    · cases z
    rw [set_ne n1] at h3
    rw [set_ne n2] at h4
    exact a.inj j k dj dk p h1 h2 h3 h4
  · rcases get_set h with ⟨_, z, _⟩ | ⟨ne, h⟩
    · cases z
    · rw [set_ne ne]; exact a.pin j p hP d' h
end
end DL
namespace DL
open PySem PySem.Spec PySem.Calls PyProof.Rows L2 Builtin.ObjectAttr Builtin.Getset_descriptor
/-! ### isinstance of a caught error -/
/-- what is known of an error's class, where its __class__ is asked -/
structure ExK (K : PySem.W.Frag) (C : Addr) : Prop where
  ga : PySem.W.findIn K (.ref C) "__getattribute__" = some (some (.builtin "BaseException.__getattribute__"))
  gt : PySem.W.findIn K (.ref C) "__getattr__" = some none
  cl : PySem.W.findIn K (.ref C) "__class__" = some (some (.builtin "object.__class__"))
  gs : PySem.W.specialIn K (.builtin "object.__class__") "__get__" = some (some (.builtin "getset_descriptor.__get__"))
  tk : PySem.W.takesIn K (.builtin "object.__class__") = some true
  ba : PySem.W.mroIn K C (.type "BaseException") = some true
  ob : PySem.W.mroIn K C (.type "object") = some true
def ErrAt (a C : Addr) (h : Heap) : Prop := ∃ o, h.get? a = some o ∧ o.cls = .ref C
section
variable {prog : Program} {w : World} {A : Around} {E : Value → Shared → Prop} {s : Shared} {K : PySem.W.Frag} {x C : Addr}
theorem err_type {M : Model} {h : Heap} (I : ErrAt x C h) : PySem.W.Looks M h (typeOf (.ref x)) (.ref C) := by
  obtain ⟨o, h1, h2⟩ := I
  exact h2 ▸ (PySem.W.Looks.ld h1).andThen .now
theorem err_find {M : Model} {h : Heap} (X : K.In h) (k : ExK K C) : PySem.W.Looks M h (find (.ref x) (.ref C) "__class__") (.bind (.builtin "getset_descriptor.__get__") (.builtin "object.__class__")) :=
  (PySem.W.looks_findIn X k.cl).andThen ((PySem.W.looks_specialIn X k.gs).andThen ((show PySem.W.Looks M h (dataDescriptor? (some _) (some _)) (some (.builtin "getset_descriptor.__get__", .builtin "object.__class__")) from (PySem.W.looks_takesIn X k.tk).andThen .now).andThen (PySem.W.Looks.tag .now)))
theorem err_get {R : Result → Shared → Prop} {tp : Value} (X : K.In s.heap) (I : ErrAt x C s.heap) (k : ExK K C) (h : R (.ok (.ret (.ref C))) s) :
    codeAny (model prog w) A (.call (.builtin "getset_descriptor.__get__") ⟨[.builtin "object.__class__", .ref x, tp], []⟩) R s := by
  have t0 := err_type (M := model prog w) I
  have t1 := PySem.W.looks_mroIn (M := model prog w) X k.ob
  refine codeAny_call_builtin PySem.W.KF.slot_gs.plain PySem.W.KF.entry_gs (PySem.W.KF.slot_gs.check _ _ _ _ _ _ _ _ PySem.W.KF.type_class (PySem.W.KF.args_gs _ _ _) ?_)
  unfold Builtin.«getset_descriptor.__get__» descrGet
  rw [PySem.W.dga_obj]
  refine wpAny_bind (wpAny_pure ?_)
  unfold descrGetter descrCheckInstance descrNameAndClass isInstance
  simp only [PySem.W.KF.owner_class]
  obtain ⟨hh, g, dr, t, os⟩ := s
  repeat lk
  refine ⟨Code.quiet_builtin _ (by decide +kernel), codeAny_builtin PySem.W.KF.entry_class ?_⟩
  unfold Builtin.«object.__class__» shownTypeOf
  repeat lk
  exact h
theorem err_class {Q : Option Value → Shared → Prop} (X : K.In s.heap) (I : ErrAt x C s.heap) (k : ExK K C) (h : Q (some (.ref C)) { s with toks := s.toks + 1 }) : wpAny (model prog w) A (getAttr? (.ref x) "__class__") Q E s := by
  have t0 := err_type (M := model prog w) I
  have t1 := PySem.W.looks_findIn (M := model prog w) X k.ga
  have t2 := PySem.W.looks_findIn (M := model prog w) X k.gt
  have t3 := err_find (M := model prog w) (x := x) X k
  have t4 := PySem.W.looks_mroIn (M := model prog w) X k.ba
  have f3 := F.excAttr_ValueError.ga.bind (.ref x)
  obtain ⟨hh, g, d, t, os⟩ := s
  unfold getAttr? getAttrBy? getAttrBy
  refine wpAny_bind (wpAny_mkText (wpAny_bind (wpAny_attempt (wpAny_holding (wpAny_bind (t0.at (wpAny_bind (t1.at ?_))))))))
  have ne : (onTheHeap (Value.ref C) && (Value.builtin "BaseException.__getattribute__" == Value.builtin "object.__getattribute__")) = false := by
    have : (Value.builtin "BaseException.__getattribute__" == Value.builtin "object.__getattribute__") = false := by decide +kernel
    rw [this]; rfl
  simp only [ne, Bool.false_eq_true, if_false]
  unfold getAttrByItsOwn hookBefore
  refine wpAny_bind ?_
  simp only [onTheHeap, if_true]
  refine t2.at (wpAny_bind (wpAny_attempt (wpAny_holding ?_)))
  unfold callGetattribute boundAndCalled
  simp only [Bool.false_and, Bool.false_eq_true, if_false]
  rw [f3]
  refine wpAny_bind (wpAny_pure (wpAny_call (codeAny_call_builtin F.excAttr_ValueError.ga.plain F.entry_bexc_ga ?_)))
  have ti : PySem.W.Looks (model prog w) hh (isInstance (.ref x) (.type "BaseException")) true := t0.andThen t4
  refine @PySem.W.check_slot (model prog w) _ _ ⟨hh, g, d, t + 1, os⟩ "BaseException.__getattribute__" "BaseException" "__getattribute__" (.ref x) [.str "__class__" t] [] _ (by decide +kernel) (by decide +kernel) ti (F.args_bexc_ga _ _) ?_
  unfold Builtin.«object.__getattribute__»
  refine wpAny_bind (wpAny_pure (wpAny_bind (wpAny_pure (wpAny_bind (t0.at (wpAny_bind (t3.at ?_)))))))
  show wpAny _ _ (bindTo _ _ _ _) _ _ _
  refine wpAny_bind (wpAny_holding (wpAny_call (err_get (s := ⟨hh, g, d, t + 1, os⟩) X I k ?_)))
  exact wpAny_pure (PySem.W.handed_on rfl (wpAny_pure h))
theorem kitx_err (k : ExK K C) : PySem.W.KitX K (.ref x) (.ref C) (ErrAt x C) where
  ty := fun _ _ _ I => err_type I
  it := fun _ _ X _ => by
    obtain ⟨cd, hc, _⟩ := Option.bind_eq_some_iff.mp k.ob
    unfold PySem.W.clsIn at hc
    split at hc
    · rename_i ho
      exact fun A' Q' E' s' kp q => by
        unfold isType loadHead
        exact wpAny_bind (wpAny_loadPart (kp _ _ (X _ _ ho)) (wpAny_pure q))
    · cases hc
  ne := fun h tp dd its n sl X htp => by
    obtain ⟨cd, hc, _⟩ := Option.bind_eq_some_iff.mp k.ob
    refine Bool.eq_false_iff.mpr fun q => ?_
    obtain rfl : C = tp := Value.ref.inj (beq_iff_eq.mp q)
    unfold PySem.W.clsIn at hc
    split at hc
    · rename_i ho
      cases (X _ _ ho).symm.trans htp
    · cases hc
  ca := fun X I h => err_class X I k h
end
section
variable {X : Cx} {a : Expr} {fa : Fn} {E : XK} {m : Md} {p pos : Pos}
theorem call_isE : CallR X (.builtin "isinstance") (fun vs H Q => ∃ x Y C φ b, vs = [.ref x, .ref Y] ∧ H x = some (.ext φ) ∧ (∀ h, φ h → ErrAt x C h) ∧ ExK X.K C ∧ PySem.W.kitOne X.K (.ref C) (.ref Y) = some b ∧ Q (.bl b) H) := by
  intro pins s σ H xs us Q I r h
  obtain ⟨x, Y, C, φ, b, rfl, hx, hφ, k, e, q⟩ := h
  obtain ⟨u, w', rfl, ru, rw'⟩ := vals2 r
  obtain rfl : w' = Value.ref Y := rw'
  obtain rfl : u = Value.ref x := ru
  exact PySem.W.kia_one (kitx_err k) I.kIn (hφ _ (I.hok x _ hx).1) e (fun z => nomatch z) fun tk => ⟨.bl b, H, I.tok tk, rfl, q⟩
/-- of which classes it is known -/
def gIsE (t : Str → Option Bool) : D → Ou D
  | .exc c _ _ => match t c with
    | some b => .ok (.bl b)
    | none => .bad
  | _ => .bad
theorem xisE {t : Str → Option Bool} {y : Str} {Y : Addr} {p2 : Pos} (z1 : X.mg "isinstance" = none) (hY : X.mg y = some (.ref Y)) (ht : ∀ c b, t c = some b → ∃ C, PySem.W.nsIn X.K mainGlobals c = some (some (.ref C)) ∧ ExK X.K C ∧ PySem.W.kitOne X.K (.ref C) (.ref Y) = some b)
    (ha : PE X a (tX X.K E .W fa)) (hg1 : Gl X "isinstance" := by rfl) (hg2 : Gl X y := by rfl) (hdb : (y == ("__debug__" : Str)) = false := by decide)
    (he : starEach [a, .Name y p2] X.env = (false, eval a X.env) :: starEach [.Name y p2] X.env := by rfl) (he2 : starEach [.Name y p2] X.env = (false, eval (.Name y p2) X.env) :: starEach [] X.env := by rfl) (hpl : (backTo pos (starEach [.Name y p2] X.env)).any (·.1) = false := by rfl) (hf : notF m = true := by rfl) :
    PE X (.Call (.Name "isinstance" p) [a, .Name y p2] [] pos) (tX X.K E m (f1 (gIsE t) fa)) := by
  have hty : PE X (.Name y p2) (tC (.ref Y)) := pe_glob hg2 hY rfl hdb
  refine (pe_callB call_isE hg1 z1 (by decide +kernel) (pa_cons ha (pa_cons hty pa_nil he2) he) (by decide) (by decide) he hpl).imp fun σ H Q q => ?_
  obtain ⟨c, δ, hK, ab, q⟩ := q
  refine ⟨c, δ, hK, ab, (Res.bind q).imp fun d _ k v H1 e1 r1 => ?_⟩
  have r1' : Rep X.K c.B H1 d v := by rw [← hK]; exact r1
  cases d with
  | exc cn ks ds =>
    simp only [gIsE] at k
    cases ht' : t cn with
    | none => rw [ht'] at k; exact k.elim
    | some b =>
      rw [ht'] at k
      obtain ⟨C, h1, h2, h3⟩ := ht _ _ ht'
      simp only [Rep] at r1'
      obtain ⟨x, C', dx, xs, rfl, hns, _, ⟨φ, hx, hφ⟩, _⟩ := r1'
      rw [h1] at hns
      cases hns
      exact ⟨x, Y, C, φ, b, rfl, hx, fun h z => by
        obtain ⟨o, _, z1, z2, _⟩ := hφ h z
        exact ⟨o, z1, z2⟩, h2, h3, k _ H1 e1 (Post.ofS hf rfl)⟩
  | _ => exact k.elim
end
/-! ### a def that may be called within a clause -/
structure RoomH (k : Nat) (A : Around) : Prop where
  dp : A.depth + 3 * k + 5 < recursionLimit
  un : A.units + 16 * k + 200 < cLine
theorem RoomH.units {k : Nat} {A : Around} (r : RoomH k A) : A.units + 64 < cLine := by have := r.un; omega
theorem _root_.L2.Room.suite {k : Nat} {X : Cx} {e : Addr} (hr : Room k X.A) : RoomH k (Cx.suite X e).A := ⟨hr.dp, hr.un⟩
/-- the context of a def of which it is not known whether an error is being handled -/
abbrev cxH (P : Program) (w : World) (K : PySem.W.Frag) (mg : Str → Option Value) (base : Heap) (N : List Str) (qual : Str) (scope : Scope) (f : Addr) (cd : Value) (A : Around) (outer : List Env) (s : Shared) (H : Hp) : Cx :=
  { (cxOf CX0 P w K mg base N qual scope f cd A outer s H E0).nox with calm := false }
structure DfH (P : Program) (w : World) (K : PySem.W.Frag) (mg : Str → Option Value) (base : Heap) (x : Str) (k : Nat) (ps : List Str) (mm : List D → Ou D) : Prop where
  ex : ∃ f fd, (∀ (A : Around) (outer : List Env) (s : Shared) (H : Hp) (args : Args) (us : List Value) (vs : List V) (Q : VK), RoomH k A → Env0 P w K mg base A outer s H → BindsTo s fd args (ps.zip us) → Vals vs us → spD K false ps.length mm vs H Q E0 →
    codeAny (model P w) A (.call (.ref f) args) (CR CX0 outer P w H s Q E0) s) ∧ Binds K fd ps [] ∧ PySem.W.keepIn K (.ref f) = true ∧ mg x = some (.ref f)
section
variable {P : Program} {w : World} {K : PySem.W.Frag} {mg : Str → Option Value} {base : Heap}
theorem DfH.mono {x : Str} {j k : Nat} {ps : List Str} {mm : List D → Ou D} (h : DfH P w K mg base x j ps mm) (hj : j ≤ k) : DfH P w K mg base x k ps mm := by
  obtain ⟨f, fd, h1, h2⟩ := h.ex
  exact ⟨f, fd, fun A outer s H args us vs Q hr => h1 A outer s H args us vs Q ⟨by have := hr.dp; omega, by have := hr.un; omega⟩, h2⟩
end
section
variable {X : Cx} {m : Md} {e : Expr} {es : List Expr} {fs : List Fn} {p pos : Pos} {x : Str} {ps : List Str} {k : Nat} {mm : List D → Ou D}
end
/-! ### tables of error classes -/
def hitL (l : List Str) : Str → Bool := fun c => l.contains c
def isL (l : List (Str × Bool)) : Str → Option Bool := fun c => l.lookup c
section
variable {K : PySem.W.Frag} {Y C : Addr} {c : Str} {l : List Str} {t : List (Str × Bool)} {b : Bool}
theorem is_nil : ∀ cn b, isL [] cn = some b → ∃ C, PySem.W.nsIn K mainGlobals cn = some (some (.ref C)) ∧ ExK K C ∧ PySem.W.kitOne K (.ref C) (.ref Y) = some b := fun _ _ h => by cases h
theorem is_cons (h1 : PySem.W.nsIn K mainGlobals c = some (some (.ref C))) (h2 : ExK K C) (h3 : PySem.W.kitOne K (.ref C) (.ref Y) = some b) (h : ∀ cn b, isL t cn = some b → ∃ C, PySem.W.nsIn K mainGlobals cn = some (some (.ref C)) ∧ ExK K C ∧ PySem.W.kitOne K (.ref C) (.ref Y) = some b) :
    ∀ cn z, isL ((c, b) :: t) cn = some z → ∃ C, PySem.W.nsIn K mainGlobals cn = some (some (.ref C)) ∧ ExK K C ∧ PySem.W.kitOne K (.ref C) (.ref Y) = some z := fun cn z hc => by
  unfold isL at hc
  rw [List.lookup_cons] at hc
  split at hc
  · rename_i e
    cases hc
    rw [eq_of_beq e]; exact ⟨C, h1, h2, h3⟩
  · exact h cn z hc
end
end DL
namespace DL
open PySem PySem.Spec PyProof.Rows L2
/-! ### texts: startswith, index, int(text) -/
section
variable {X : Cx} {E : XK} {m : Md} {a b e : Expr} {fa fb fe : Fn} {pos p : Pos}
/-- a text's method with one argument -/
def fS2 (g : Str → D → Ou D) (fa fb : Fn) : Fn := fun δ => (fa δ).bind fun x => match x with
  | .str z => (fb δ).bind fun y => g z y
  | _ => .bad
def gStarts (x : Str) : D → Ou D
  | .str y => .ok (.bl (Txt.startswith x y))
  | _ => .bad
def gIndex (x : Str) : D → Ou D
  | .str y => match Builtin.Str.occurrences x y 0 x.length 1 with
    | i :: _ => .ok (.int (i : Nat))
    | [] => .bad
  | _ => .bad
/-- int(text) -/
def gIntT : List D → Ou D
  | [.str z] => if z.length ≤ 640 then (match PySem.intText? z with
    | some n => .ok (.int n)
    | none => .bad) else .bad
  | _ => .bad
end
/-! ### f'{text!r}' in an error's text -/
def jR (f : Fn) (g : DS → Ou Nat) : DS → Ou Nat := fun δ => (f δ).bind fun d => match d with
  | .str z => if (reprText z).length ≤ 5000 then (g δ).bind fun k => .ok (5000 + k) else .bad
  | _ => .bad
section
variable {X : Cx} {e : Expr} {es : List Expr} {f : Fn} {g : DS → Ou Nat} {pos : Pos}
end
/-! ### isinstance of a caught error against a built-in class -/
section
variable {X : Cx} {a : Expr} {fa : Fn} {E : XK} {m : Md} {p pos : Pos}
theorem call_isET : CallR X (.builtin "isinstance") (fun vs H Q => ∃ x T C φ b, vs = [.ref x, .ty T] ∧ H x = some (.ext φ) ∧ (∀ h, φ h → ErrAt x C h) ∧ ExK X.K C ∧ PySem.W.kitOne X.K (.ref C) (.type T) = some b ∧ Q (.bl b) H) := by
  intro pins s σ H xs us Q I r h
  obtain ⟨x, T, C, φ, b, rfl, hx, hφ, k, e, q⟩ := h
  obtain ⟨u, w', rfl, ru, rw'⟩ := vals2 r
  obtain rfl : w' = Value.type T := rw'
  obtain rfl : u = Value.ref x := ru
  exact PySem.W.kia_one (kitx_err k) I.kIn (hφ _ (I.hok x _ hx).1) e (fun z => nomatch z) fun tk => ⟨.bl b, H, I.tok tk, rfl, q⟩
theorem xisET {t : Str → Option Bool} {y : Str} {T : String} {p2 : Pos} (z1 : X.mg "isinstance" = none) (z2 : X.mg y = none) (ht : ∀ c b, t c = some b → ∃ C, PySem.W.nsIn X.K mainGlobals c = some (some (.ref C)) ∧ ExK X.K C ∧ PySem.W.kitOne X.K (.ref C) (.type T) = some b)
    (ha : PE X a (tX X.K E .W fa)) (hb : bootBuiltins y = some (.type T) := by decide +kernel) (hg1 : Gl X "isinstance" := by rfl) (hg2 : Gl X y := by rfl) (hn : y ≠ "__name__" := by decide) (hdb : (y == ("__debug__" : Str)) = false := by decide)
    (he : starEach [a, .Name y p2] X.env = (false, eval a X.env) :: starEach [.Name y p2] X.env := by rfl) (he2 : starEach [.Name y p2] X.env = (false, eval (.Name y p2) X.env) :: starEach [] X.env := by rfl) (hpl : (backTo pos (starEach [.Name y p2] X.env)).any (·.1) = false := by rfl) (hf : notF m = true := by rfl) :
    PE X (.Call (.Name "isinstance" p) [a, .Name y p2] [] pos) (tX X.K E m (f1 (gIsE t) fa)) := by
  have hty : PE X (.Name y p2) (tC (.ty T)) := pe_bltn hg2 z2 hb rfl hn hdb
  refine (pe_callB call_isET hg1 z1 (by decide +kernel) (pa_cons ha (pa_cons hty pa_nil he2) he) (by decide) (by decide) he hpl).imp fun σ H Q q => ?_
  obtain ⟨c, δ, hK, ab, q⟩ := q
  refine ⟨c, δ, hK, ab, (Res.bind q).imp fun d _ k v H1 e1 r1 => ?_⟩
  have r1' : Rep X.K c.B H1 d v := by rw [← hK]; exact r1
  cases d with
  | exc cn ks ds =>
    simp only [gIsE] at k
    cases ht' : t cn with
    | none => rw [ht'] at k; exact k.elim
    | some b =>
      rw [ht'] at k
      obtain ⟨C, h1, h2, h3⟩ := ht _ _ ht'
      simp only [Rep] at r1'
      obtain ⟨x, C', dx, xs, rfl, hns, _, ⟨φ, hx, hφ⟩, _⟩ := r1'
      rw [h1] at hns
      cases hns
      exact ⟨x, T, C, φ, b, rfl, hx, fun h z => by
        obtain ⟨o, _, z1, z2, _⟩ := hφ h z
        exact ⟨o, z1, z2⟩, h2, h3, k _ H1 e1 (Post.ofS hf rfl)⟩
  | _ => exact k.elim
end
section
variable {K : PySem.W.Frag} {T : String} {c : Str} {C : Addr} {b : Bool} {t : List (Str × Bool)}
theorem isT_nil : ∀ cn b, isL [] cn = some b → ∃ C, PySem.W.nsIn K mainGlobals cn = some (some (.ref C)) ∧ ExK K C ∧ PySem.W.kitOne K (.ref C) (.type T) = some b := fun _ _ h => nomatch h
theorem isT_cons (h1 : PySem.W.nsIn K mainGlobals c = some (some (.ref C))) (h2 : ExK K C) (h3 : PySem.W.kitOne K (.ref C) (.type T) = some b) (h : ∀ cn b, isL t cn = some b → ∃ C, PySem.W.nsIn K mainGlobals cn = some (some (.ref C)) ∧ ExK K C ∧ PySem.W.kitOne K (.ref C) (.type T) = some b) :
    ∀ cn z, isL ((c, b) :: t) cn = some z → ∃ C, PySem.W.nsIn K mainGlobals cn = some (some (.ref C)) ∧ ExK K C ∧ PySem.W.kitOne K (.ref C) (.type T) = some z := fun cn z hc => by
  unfold isL at hc
  rw [List.lookup_cons] at hc
  split at hc
  · rename_i e
    cases hc
    rw [eq_of_beq e]; exact ⟨C, h1, h2, h3⟩
  · exact h cn z hc
end
end DL
namespace DL
open PySem PySem.Spec PyProof.Rows L2
/-! ### defs by one record of the text's facts -/
structure Sr0 (K : PySem.W.Frag) (mg : Str → Option Value) (x : Str) (st : Stmt) : Prop where
  ex : ∃ f fd, Fun K x x st f fd ∧ mg x = some (.ref f)
structure Ms0 (K : PySem.W.Frag) (C : Addr) (x qual : Str) (st : Stmt) : Prop where
  ex : ∃ f fd, Fun K x qual st f fd ∧ Meth K C x f
structure Ck (K : PySem.W.Frag) (C : Addr) (x : Str) : Prop where
  cl : Cls K C
  ns : PySem.W.nsIn K mainGlobals x = some (some (.ref C))
abbrev Bnd (x qual : Str) (st : Stmt) (ps : List Str) : Prop := ∀ (kV doc pm : Value) (an : Option Addr) (cdv ct : Value) (us : List Value), us.length = ps.length → bindArgs (PySem.W.fnOf x qual (defArgs st) (defBody st) (defScope st) .none kV doc pm an cdv ct) ⟨us, []⟩ = pure (ps.zip us)
section
variable {P : Program} {w : World} {K : PySem.W.Frag} {mg : Str → Option Value} {base h : Heap} {x qual c : Str} {st : Stmt} {f C : Addr} {od an : Option Addr} {sl : Array (Option Value)} {oc kV dc pm cd ct : Value}
theorem sr0_mk (X : K.In h) (G : h.Ns mainGlobals mg) (a : PySem.W.nsIn K mainGlobals x = some (some (.ref f))) (l : K.lookup f = some ⟨oc, od, .func (PySem.W.fnOf x x (defArgs st) (defBody st) (defScope st) .none kV dc pm an cd ct), sl⟩)
    (c : PySem.W.codeIn K cd x = true) (k : PySem.W.keepIn K (.ref f) = true) : Sr0 K mg x st := ⟨f, _, fun_mk l c k, PySem.W.mg_of X G a⟩
theorem Sr0.src {ps : List Str} (S : Sr0 K mg x st) (hb : Bnd x x st ps := by intro _ _ _ _ _ _; first | exact len1 fun _ => rfl | exact len2 fun _ _ => rfl | exact len3 fun _ _ _ => rfl | exact len4 fun _ _ _ _ => rfl | exact len5 fun _ _ _ _ _ => rfl | exact len0 rfl) : Src K mg x st ps := by
  obtain ⟨f, fd, h1, h2⟩ := S.ex
  exact ⟨f, fd, h1, h1.binds hb, h2⟩
variable {N ps : List Str} {k : Nat} {fr : Bool} {F : Sm} {fd : FuncData} {mm : List D → Ou D}
theorem df_mk (S : Sr0 K mg x st)
    (hbody : ∀ {f : Addr} {cdv : Value} {A : Around} {outer : List Env} {s : Shared} {H : Hp} {E : XK}, N.Nodup → Room k (A.deeper (envOfC x (defScope st) s.heap.objs.size f cdv)) →
      PSs (cxOf CX0 P w K mg base N x (defScope st) f cdv A outer s H E).nox (defBody st) (tS K E0 fr F)) (sc : FnScope N ps (defScope st) := by exact ⟨rfl, rfl, rfl, by decide +kernel, rfl, by decide +kernel, by decide +kernel⟩) (hn : ps.length ≤ N.length := by decide)
    (hb : Bnd x x st ps := by intro _ _ _ _ _ _; first | exact len1 fun _ => rfl | exact len2 fun _ _ => rfl | exact len3 fun _ _ _ => rfl | exact len4 fun _ _ _ _ => rfl | exact len5 fun _ _ _ _ _ => rfl | exact len0 rfl) : Df P w K mg base x (k + 1) ps fr (runD fr N.length F) := df_of (S.src hb) sc hn fun _ _ _ _ _ _ _ => hbody sc.nd
theorem fn_mk (S : Fun K x qual st f fd)
    (hbody : ∀ {f : Addr} {cdv : Value} {A : Around} {outer : List Env} {s : Shared} {H : Hp} {E : XK}, N.Nodup → Room k (A.deeper (envOfC qual (defScope st) s.heap.objs.size f cdv)) →
      PSs (cxOf CX0 P w K mg base N qual (defScope st) f cdv A outer s H E).nox (defBody st) (tS K E0 fr F)) (sc : FnScope N ps (defScope st) := by exact ⟨rfl, rfl, rfl, by decide +kernel, rfl, by decide +kernel, by decide +kernel⟩) (hn : ps.length ≤ N.length := by decide) :
    FnOk P w K mg base CX0 (k + 1) f fd ps (spD K fr ps.length (runD fr N.length F)) := fn_ofM S sc hn fun _ _ _ _ _ _ _ => hbody sc.nd
end
section
variable {X : Cx} {m : Md} {e : Expr} {es : List Expr} {fs : List Fn} {p pos : Pos} {x : Str} {ps : List Str} {j k : Nat} {mm : List D → Ou D}
theorem xcl (h : Df X.prog X.w X.K X.mg X.base x j ps false mm) (hr : Room k X.A) (ha : PA X (e :: es) (tXA X.K E0 m fs)) (hj : j ≤ k := by omega) (hl : fs.length = ps.length := by rfl) (hg : Gl X x := by rfl) (hdb : (x == ("__debug__" : Str)) = false := by decide)
    (he : starEach (e :: es) X.env = (false, eval e X.env) :: starEach es X.env := by rfl) (hpl : (backTo pos (starEach es X.env)).any (·.1) = false := by rfl) (hm : notF m = true := by rfl) : PE X (.Call (.Name x p) (e :: es) [] pos) (tX X.K E0 m (fCall mm fs)) := xcall (h.mono hj) hr ha hl hg hdb he hpl hm
end
end DL
namespace DL
open PySem PySem.Spec PyProof.Rows L2
section
variable {P : Program} {w : World} {K : PySem.W.Frag} {mg : Str → Option Value} {base h : Heap} {x : Str} {C : Addr} {st : Stmt} {N ps : List Str} {k : Nat} {fr : Bool} {F : Sm}
theorem exc_mk (X : K.In h) (G : h.Ns mainGlobals mg) (a : PySem.W.nsIn K mainGlobals x = some (some (.ref C))) : PySem.W.nsIn K mainGlobals x = some (some (.ref C)) ∧ mg x = some (.ref C) := ⟨a, PySem.W.mg_of X G a⟩
end
end DL
namespace DL
open PySem PySem.Spec PySem.Calls PyProof.Rows L2 Builtin.ObjectAttr
/-! ### errors with fields -/
/-- what is known of the class of an error with fields: one class of ours stands between it and ValueError -/
structure ExS (K : PySem.W.Frag) (C : Addr) : Prop where
  cl : ∃ (cd : ClassData) (B : Addr), PySem.W.clsIn K C = some cd ∧ cd.hasDict = true ∧ cd.mro = [.ref C, .ref B, .type "ValueError", .type "Exception", .type "BaseException", .type "object"]
  sa : PySem.W.findIn K (.ref C) "__setattr__" = some (some (.builtin "object.__setattr__"))
/-- an error in the heap: its class, its fields by name -/
structure Exf (h : Heap) (x C : Addr) (mA : Str → Option Value) : Prop where
  ex : ∃ o vs, h.get? x = some o ∧ o.cls = .ref C ∧ o.data = .fields vs ∧ 3 < vs.size ∧ ((o.dict = none ∧ ∀ n, mA n = none) ∨ ∃ d, o.dict = some d ∧ d ≠ x ∧ h.Ns1 d mA)
section
variable {prog : Program} {w : World} {A : Around} {E : Value → Shared → Prop} {s : Shared} {K : PySem.W.Frag} {x C dx : Addr} {f : Str} {mA : Str → Option Value} {v : Value}
/-- e.f -/
theorem exf_get {Q : Value → Shared → Prop} {o : Obj} {vs : Array Value} {e : Bool} (X : K.In s.heap) (k : ExK K C) (ks : ExS K C) (nf : PySem.W.findIn K (.ref C) f = some none) (hx : s.heap.get? x = some o) (hc : o.cls = .ref C) (hd : o.data = .fields vs) (hdx : o.dict = some dx) (N : s.heap.Ns1 dx mA) (hv : mA f = some v) (hh : PySem.W.handedIn v = true)
    (h : Q v { s with toks := s.toks + 1 }) : wpAny (model prog w) A (getAttr (.ref x) f e) Q E s := by
  obtain ⟨cd, B, c1, c2, c3⟩ := ks.cl
  obtain ⟨od, hod, hlk⟩ := lookIn_ns N
  have I : PySem.W.InstAt s.heap x o C (some od) := ⟨hx, hc, by unfold PySem.W.notCls; rw [hd], by rw [hdx]; exact hod⟩
  have hl : PySem.W.lookIn f od = some (some v) := by rw [hlk, hv]
  have hf : PySem.W.findObj K C (some od) f = some (.value v) := by
    unfold PySem.W.findObj
    rw [c1, nf]
    show (PySem.W.ownOf cd (some od) f).bind _ = _
    unfold PySem.W.ownOf
    rw [if_pos c2]
    show (PySem.W.lookIn f od).bind _ = _
    rw [hl]; rfl
  have t0 := I.type (M := model prog w)
  have t1 := PySem.W.looks_findIn (M := model prog w) X k.ga
  have t2 := PySem.W.looks_findIn (M := model prog w) X k.gt
  have t3 := PySem.W.looks_find (M := model prog w) X I hf
  have t4 := PySem.W.looks_mroIn (M := model prog w) X k.ba
  have f3 := F.excAttr_ValueError.ga.bind (.ref x)
  obtain ⟨hp, g, d, t, os⟩ := s
  unfold getAttr getAttrBy
  refine wpAny_bind (wpAny_mkText (wpAny_holding (wpAny_bind (t0.at (wpAny_bind (t1.at ?_))))))
  have ne : (onTheHeap (Value.ref C) && (Value.builtin "BaseException.__getattribute__" == Value.builtin "object.__getattribute__")) = false := by
    have : (Value.builtin "BaseException.__getattribute__" == Value.builtin "object.__getattribute__") = false := by decide +kernel
    rw [this]; rfl
  simp only [ne, Bool.false_eq_true, if_false]
  unfold getAttrByItsOwn hookBefore
  refine wpAny_bind ?_
  simp only [onTheHeap, if_true]
  refine t2.at (wpAny_bind (wpAny_attempt (wpAny_holding ?_)))
  unfold callGetattribute boundAndCalled
  have nh : (e && onTheHeap (Value.builtin "BaseException.__getattribute__")) = false := by cases e <;> rfl
  rw [nh, if_neg (by decide), f3]
  refine wpAny_bind (wpAny_pure (wpAny_call (codeAny_call_builtin F.excAttr_ValueError.ga.plain F.entry_bexc_ga ?_)))
  have ti : PySem.W.Looks (model prog w) hp (isInstance (.ref x) (.type "BaseException")) true := t0.andThen t4
  refine @PySem.W.check_slot (model prog w) _ _ ⟨hp, g, d, t + 1, os⟩ "BaseException.__getattribute__" "BaseException" "__getattribute__" (.ref x) [.str f t] [] _ (by decide +kernel) (by decide +kernel) ti (F.args_bexc_ga _ _) ?_
  unfold Builtin.«object.__getattribute__»
  refine wpAny_bind (wpAny_pure (wpAny_bind (wpAny_pure (wpAny_bind (t0.at (wpAny_bind (t3.at ?_)))))))
  refine wpAny_pure ?_
  show wpAny _ _ (handedOut v) _ _ _
  rw [PySem.W.handedOut_of hh]
  exact wpAny_pure h
theorem exf_open {R : Result → Shared → Prop} {ox : Obj} {od : Option Obj} {tk : Tok} (X : K.In s.heap) (k : ExK K C) (ks : ExS K C) (nf : PySem.W.findIn K (.ref C) f = some none) (I : PySem.W.InstAt s.heap x ox C od)
    (h : wpAny (model prog w) A.in1 (storeInOwnDict (.ref x) (.ref C) (.str f tk) f v false)
      (fun fin s' => match fin with | .done f => R (.ok f) s' | .again c' => c'.quiet = true ∧ codeAny (model prog w) A c' R s') (fun e s' => R (.error e) s') s) :
    codeAny (model prog w) A (.call (.builtin "object.__setattr__") ⟨[.ref x, .str f tk, v], []⟩) R s := by
  have SF := PySem.F.store_object
  obtain ⟨cd, B, c1, c2, c3⟩ := ks.cl
  have sub : PySem.W.Looks (model prog w) s.heap (isInstance (.ref x) (.type "object")) true := I.type.andThen (PySem.W.looks_mroIn X k.ob)
  refine codeAny_call_builtin SF.slot.plain SF.entry (@PySem.W.check_slot (model prog w) _ _ s "object.__setattr__" "object" "__setattr__" (.ref x) [.str f tk, v] [] _ SF.kind SF.split sub (SF.args (.ref x) (.str f tk) v) ?_)
  have hm : PySem.W.Looks (model prog w) s.heap (mroOf (.ref C)) cd.mro := (PySem.W.looks_clsIn X c1).andThen .now
  rw [PySem.W.osa_eq, refuse_eq]
  refine wpAny_bind (wpAny_bind (I.type.here (wpAny_bind (hm.here ?_))))
  rw [c3, refuseLoop_ref, refuseLoop_ref, PySem.F.store_ValueError.passes]
  exact wpAny_pure (wpAny_bind (I.type.here (wpAny_bind ((PySem.W.looks_findIn X nf).here (wpAny_bind (wpAny_pure h))))))
/-- e.f = v -/
theorem exf_set {Q : Unit → Shared → Prop} {o : Obj} {vs : Array Value} {ns : List Str} (X : K.In s.heap) (k : ExK K C) (ks : ExS K C) (nf : PySem.W.findIn K (.ref C) f = some none) (hx : s.heap.get? x = some o) (hc : o.cls = .ref C) (hd : o.data = .fields vs)
    (hdx : (o.dict = none ∧ ∀ n, mA n = none) ∨ ∃ d, o.dict = some d ∧ d ≠ x ∧ s.heap.Ns1 d mA) (hw : PySem.Within mA ns) (hsz : ns.length < 1000)
    (h : ∀ h' tk d, d ≠ x → (o.dict = some d ∨ (o.dict = none ∧ d = s.heap.objs.size)) → h'.get? x = some { o with dict := some d } → h'.Ns1 d (fun y => if y = f then some v else mA y) →
      (∀ b ob, b ≠ x → b ≠ d → s.heap.get? b = some ob → h'.get? b = some ob) → Q () { s with heap := h', toks := tk }) :
    wpAny (model prog w) A (setAttr (.ref x) f v) Q E s := by
  obtain ⟨cd, B, c1, c2, c3⟩ := ks.cl
  rcases hdx with ⟨hdn, hm⟩ | ⟨d, hdd, hne, N⟩
  · have I : PySem.W.InstAt s.heap x o C none := ⟨hx, hc, by unfold PySem.W.notCls; rw [hd], by rw [hdn]; trivial⟩
    refine PySem.W.set_plain X I ks.sa (exf_open (s := { s with toks := s.toks + 1 }) X k ks nf I ?_)
    obtain ⟨oc, odi, oda, osl⟩ := o
    dsimp only at hc hd hdn
    subst hc hd hdn
    refine wpAny_bind (wpAny_pure (wpAny_bind (wpAny_bind (wpAny_loadPart hx (wpAny_bind (PySem.W.Looks.here (s := { s with toks := s.toks + 1 }) (PySem.W.looks_clsIn X c1) ?_))))))
    rw [c2]
    have hx₁ : (s.heap.push { cls := .type "dict", data := .dict #[] }).get? x = some ⟨.ref C, none, .fields vs, osl⟩ := Heap.get?_push_of_some _ hx
    have hxs : x ≠ s.heap.objs.size := Nat.ne_of_lt (Heap.lt_size hx)
    refine wpAny_bind (wpAny_alloc' ?_)
    refine wpAny_bind (wpAny_update' hx₁ ?_)
    refine wpAny_pure ?_
    have hgd : ((s.heap.push { cls := .type "dict", data := .dict #[] }).update x fun o => { cls := o.cls, dict := some s.heap.objs.size, data := o.data, slots := o.slots }).get? s.heap.objs.size = some { cls := .type "dict", data := .dict #[] } :=
      (Heap.get?_update_ne _ _ _ _ hxs.symm).trans (Heap.get?_push_at rfl rfl)
    have hnd : ((s.heap.push { cls := .type "dict", data := .dict #[] }).update x fun o => { cls := o.cls, dict := some s.heap.objs.size, data := o.data, slots := o.slots }).Ns s.heap.objs.size (fun _ => none) :=
      ⟨_, #[], _, hgd, rfl, fun e he => absurd he (by simp), fun _ => rfl⟩
    show wpAny _ _ (storeInDict s.heap.objs.size (.str f s.toks) f v) _ _ _
    unfold storeInDict newKeyGuard
    refine wpAny_bind (wpAny_pure (wpAny_bind (wpAny_nsSet1 (Heap.Ns1.of_empty hnd) fun h' hn' hs => ?_)))
    obtain ⟨oD, esD, epD, hoD, hdD, hcD⟩ := hn'.count (Within.cons f v Within.nil)
    refine wpAny_bind (wpAny_lookBehind hoD (by rw [hdD]; exact pastItsLine_dict (Nat.le_trans hcD (by rw [List.length_cons, List.length_nil, sizeLine_eq]; omega))) ?_)
    refine wpAny_pure (h h' _ s.heap.objs.size hxs.symm (.inr ⟨rfl, rfl⟩) ?_ ?_ fun b ob hbx _ e => ?_)
    · exact (hs.2 x hxs).trans (Heap.get?_update_self _ hx₁ rfl)
    · obtain ⟨o', es, ep, e1, e2, e3, eu, e4⟩ := hn'
      exact ⟨o', es, ep, e1, e2, e3, eu, fun y => by rw [e4 y]; by_cases hy : y = f <;> simp [hy, hm]⟩
    · exact (hs.2 b (Nat.ne_of_lt (Heap.lt_size e))).trans ((Heap.get?_update_ne _ _ _ _ hbx).trans (Heap.get?_push_of_some _ e))
  · obtain ⟨od, hod, hlk⟩ := lookIn_ns N
    have I : PySem.W.InstAt s.heap x o C (some od) := ⟨hx, hc, by unfold PySem.W.notCls; rw [hd], by rw [hdd]; exact hod⟩
    refine PySem.W.set_plain X I ks.sa (exf_open (s := { s with toks := s.toks + 1 }) X k ks nf I ?_)
    obtain ⟨oc, odi, oda, osl⟩ := o
    dsimp only at hc hd hdd
    subst hc hd hdd
    refine wpAny_bind (wpAny_pure (wpAny_bind (wpAny_bind (wpAny_loadPart hx (wpAny_bind (PySem.W.Looks.here (s := { s with toks := s.toks + 1 }) (PySem.W.looks_clsIn X c1) ?_))))))
    rw [c2]
    refine wpAny_pure (a := some d) (wpAny_bind (wpAny_pure (wpAny_bind ?_)))
    refine wpAny_nsSet1 (s := { s with toks := s.toks + 1 }) N fun h' hn2 hs2 => ?_
    obtain ⟨oD, esD, epD, hoD, hdD, hcD⟩ := hn2.count (PySem.Within.cons f v hw)
    refine wpAny_bind (wpAny_lookBehind hoD (by rw [hdD]; exact pastItsLine_dict (Nat.le_trans hcD (by rw [List.length_cons, sizeLine_eq]; omega))) ?_)
    exact wpAny_pure (h _ _ d hne (.inl rfl) ((hs2.2 _ (Ne.symm hne)).trans hx) hn2 fun b ob _ hb e => (hs2.2 b hb).trans e)
end
/-- a class of errors with an __init__ of its own, over ValueError -/
structure ExI (K : PySem.W.Frag) (C fI : Addr) : Prop where
  ob : ∃ dd cd sl k0 k1 k2 k3 k5 bm, K.lookup C = some ⟨.type "type", dd, .cls cd, sl⟩ ∧ cd.mro = .ref C :: bm ∧ sl = #[k0, k1, k2, k3, some (.builtin "ValueError.__new__"), k5] ∧ cd.hasDel = false ∧
    PySem.W.tailIn K [.type "ValueError", .type "Exception", .type "BaseException", .type "object"] bm = true ∧ PySem.W.nsOkIn K cd.ns = true ∧ PySem.W.nsIn K cd.ns "__init__" = some (some (.ref fI))
  fn : ∃ oI, K.lookup fI = some oI ∧ oI.cls = .type "function"
section
variable {prog : Program} {w : World} {A : Around} {E : Value → Shared → Prop} {s : Shared} {K : PySem.W.Frag} {x C fI : Addr}
theorem nsAt {h : Heap} {N : Addr} {mN : Str → Option Value} {y : Str} {u : Value} (X : K.In h) (G : h.Ns N mN) (e : PySem.W.nsIn K N y = some (some u)) : mN y = some u := by
  obtain ⟨ob, en, n0, g1, g2, _, g4⟩ := G
  unfold PySem.W.nsIn at e
  split at e
  · rename_i hq
    have z := X _ _ hq
    rw [g1] at z; cases z; cases g2
    split at e
    · rename_i hz; cases e; rw [← g4]; unfold nsFind findBy; rw [← Array.find?_toList, hz]; rfl
    · split at e <;> cases e
  · cases e
theorem exiObj {h : Heap} (X : K.In h) (q : ExI K C fI) : ∃ bm N nm qn bs hdct sn sub ab col dd k0 k1 k2 k3 k5 mN, h.get? C = some (excClassObj nm qn C N bs bm hdct sn sub ab col dd k0 k1 k2 k3 k5 "ValueError.__new__") ∧ h.Ns N mN ∧ mN "__init__" = some (.ref fI) ∧
    OwnTail h [.type "ValueError", .type "Exception", .type "BaseException", .type "object"] bm := by
  obtain ⟨dd, cd, sl, k0, k1, k2, k3, k5, bm, h1, h2, rfl, h4, h5, h6, h7⟩ := q.ob
  obtain ⟨nm, bs, mro, ns, qn, hd, sn, sub, ab, col, del⟩ := cd
  dsimp only at h2 h4 h6 h7
  subst h2 h4
  have N : h.Ns ns (h.nsMap ns) := .of_isNs (PySem.W.isNs_of_in X h6)
  exact ⟨bm, ns, nm, qn, bs, hd, sn, sub, ab, col, dd, k0, k1, k2, k3, k5, _, X _ _ h1, N, nsAt X N h7, PySem.W.tail_of_in X h5⟩
/-- ValueError.__init__(e, ..) -/
theorem exf_init {o : Obj} {vs : Array Value} {t0 : Addr} {rest : List Value} {Q : Value → Shared → Prop} (X : K.In s.heap) (q : ExI K C fI) (he : s.heap.get? x = some o) (hc : o.cls = .ref C) (hd : o.data = .fields vs) (h0 : vs[0]? = some (.ref t0)) (hrest : rest.length ≤ sizeLine)
    (h : Q .none { s with heap := (s.heap.push { cls := .type "tuple", data := .seq rest.toArray }).update x (Obj.mapFields (·.setIfInBounds 0 (.ref s.heap.objs.size))) }) : wpAny (model prog w) A (call (.builtin "ValueError.__init__") (.ref x :: rest)) Q E s := by
  have F := PySem.F.excBase_ValueError
  obtain ⟨bm, N, nm, qn, bs, hdct, sn, sub, ab, col, dd, k0, k1, k2, k3, k5, mN, hC, hN, hi, T⟩ := exiObj X q
  obtain ⟨hp, g, d, t, os⟩ := s
  refine wpAny_call (codeAny_call_builtin F.init.plain F.initEntry (wpAny_check_init_subT F T hC he hc ?_))
  unfold Builtin.«BaseException.__init__»
  dsimp only
  rw [if_neg (by simp)]
  unfold newTuple Builtin.BaseException.bexcPut
  have hsz : 0 < vs.size := (Array.getElem?_eq_some_iff.mp h0).1
  have he₁ := Heap.get?_push_of_some (h := hp) { cls := .type "tuple", data := .seq rest.toArray } he
  refine wpAny_bind (wpAny_newObj_type (wpAny_bind (wpAny_bind (wpAny_field he₁ hd h0 (wpAny_bind (wpAny_setField he₁ hd hsz ?_))))) (by show rest.toArray.size ≤ sizeLine; rw [List.size_toArray]; exact hrest))
  exact wpAny_letGo (wpAny_pure h)
/-- C(..): the error is laid, then its own __init__ -/
theorem exf_make0 {h : Heap} {g : Array GenState} {d : Drawn} {t : Nat} {os : OsState} {rest : List Value} {Q : Fin → Shared → Prop} {bm : List Value} {N : Addr} {nm qn : Str} {bs : List Value} {hdct : Bool} {sn : List Str} {sub : List Value} {ab : Bool} {col : Option Bool} {dd : Option Addr} {k0 k1 k2 k3 k5 : Option Value}
    {mN : Str → Option Value} {oI : Obj} (hC : h.get? C = some (excClassObj nm qn C N bs bm hdct sn sub ab col dd k0 k1 k2 k3 k5 "ValueError.__new__")) (hN : h.Ns N mN) (hi : mN "__init__" = some (.ref fI)) (T : OwnTail h [.type "ValueError", .type "Exception", .type "BaseException", .type "object"] bm)
    (hfI : h.get? fI = some oI) (hfc : oI.cls = .type "function") (hrest : rest.length ≤ sizeLine)
    (hq : wpAny (model prog w) A (call (.ref fI) (.ref (h.objs.size + 1) :: rest)) (fun r s' => r = .none ∧ Q (.done (.ret (.ref (h.objs.size + 1)))) s') E ⟨(h.push { cls := .type "tuple", data := .seq rest.toArray }).push { cls := .ref C, data := .fields #[.ref h.objs.size, .none, .none, .none, .bool false, .none] }, g, d, t, os⟩) :
    wpAny (model prog w) A (Builtin.«type.__call__» ⟨.ref C :: rest, []⟩) Q E ⟨h, g, d, t, os⟩ := by
  have F := PySem.F.excBase_ValueError
  repeat (first | with_reducible refine wpAny_loadPart_at hC ?_ | with_reducible refine wpAny_madeBy_exc hC ?_ | wp_step)
  refine codeAny_call_builtin_code (Code.quiet_builtin _ F.quiet) (wpAny_check_new_subT F T hC ?_)
  refine codeAny_exc_new_subT F T hC ?_ hrest
  show wpAny _ _ _ _ _ _
  have kp : ∀ b o, h.get? b = some o → ((h.push { cls := .type "tuple", data := .seq rest.toArray }).push { cls := .ref C, data := .fields #[.ref h.objs.size, .none, .none, .none, .bool false, .none] }).get? b = some o := fun b o e => Heap.get?_push_of_some _ (Heap.get?_push_of_some _ e)
  have hC₁ := kp _ _ hC
  have hget : ((h.push { cls := .type "tuple", data := .seq rest.toArray }).push { cls := .ref C, data := .fields #[.ref h.objs.size, .none, .none, .none, .bool false, .none] }).get? (h.objs.size + 1) = some
      { cls := .ref C, data := .fields #[.ref h.objs.size, .none, .none, .none, .bool false, .none] } := by heap_get
  have hcC : (Value.ref C :: bm).contains (.ref C) = true := by simp
  unfold isInstance
  repeat (first | with_reducible refine wpAny_loadPart_at hget ?_ | (with_reducible refine wpAny_isSubtype_exc hC₁ ?_; rw [hcC]) | wp_step)
  show wpAny _ _ (typeLookup (.ref C) _) _ _ _
  refine wpAny_typeLookup_tail hC₁ (hN.keeps kp) (T.keeps kp) F.mroIs F.init.lookup ?_
  rw [hi]
  refine wpAny_holding (wpAny_bind ?_)
  unfold bindSpecial
  refine wpAny_bind (wpAny_typeOf (T := "function") ⟨_, kp _ _ hfI, hfc⟩ ?_)
  rw [if_pos (by decide)]
  refine wpAny_pure (wpAny_bind (wpAny_mono hq (fun r s' hr => ?_) fun _ _ z => z))
  obtain ⟨rfl, hQ⟩ := hr
  wp_walk
  exact hQ
theorem exf_make {rest : List Value} {Q : Value → Shared → Prop} (X : K.In s.heap) (q : ExI K C fI) (hrest : rest.length ≤ sizeLine)
    (hq : wpAny (model prog w) (A.under (.builtin "type.__call__" ⟨.ref C :: rest, []⟩)) (call (.ref fI) (.ref (s.heap.objs.size + 1) :: rest)) (fun r s' => r = .none ∧ Q (.ref (s.heap.objs.size + 1)) s') E
      { s with heap := (s.heap.push { cls := .type "tuple", data := .seq rest.toArray }).push { cls := .ref C, data := .fields #[.ref s.heap.objs.size, .none, .none, .none, .bool false, .none] } }) :
    wpAny (model prog w) A (call (.ref C) rest) Q E s := by
  obtain ⟨bm, N, nm, qn, bs, hdct, sn, sub, ab, col, dd, k0, k1, k2, k3, k5, mN, hC, hN, hi, T⟩ := exiObj X q
  obtain ⟨oI, hk, hfc⟩ := q.fn
  have hfI := X _ _ hk
  obtain ⟨h, g, d, t, os⟩ := s
  have f1 := tc_lookup
  have f2 := tc_bind (.ref C)
  have hT : (⟨h, g, d, t, os⟩ : Shared).TypeIs (.ref C) "type" := ⟨_, hC, rfl⟩
  refine wpAny_call (codeAny_of_tree ?_)
  show wpAny _ _ (callAny (.ref C) _) _ _ _
  repeat (any_goals (first | assumption | with_reducible refine wpAny_loadPart_at hC ?_ | wp_step))
  refine ⟨rfl, ?_⟩
  refine codeAny_call_builtin_at (Code.quiet_builtin _ (by decide +kernel)) entry_typeCall (wpAny_check_type_call_sub hC (exf_make0 hC hN hi T hfI hfc hrest ?_))
  exact hq
end
end DL
namespace DL
open PySem PySem.Spec PySem.Calls PyProof.Rows L2 Builtin.ObjectAttr
/-! ### the __init__ of an error with fields -/
/-- an error as it was laid: its class, its dict; no trace yet -/
def ExO (x C : Addr) (dx : Option Addr) (h : Heap) : Prop := ∃ t0 sl, h.get? x = some ⟨.ref C, dx, .fields #[.ref t0, .none, .none, .none, .bool false, .none], sl⟩
def XdO (d : Addr) (fs : List (Str × V)) (h : Heap) : Prop := ∃ mA, h.Ns1 d mA ∧ (∀ f, RelO (fs.lookup f) (mA f)) ∧ PySem.Within mA (fs.map (·.1))
section
variable {P : Program} {w : World} {H : Hp} {h : Heap} {x C d : Addr} {dx : Option Addr} {fs : List (Str × V)}
theorem exo_ok (p : ExO x C dx h) : ObjOk P w H h x (.ext (ExO x C dx)) := ⟨p, let ⟨_, _, e⟩ := p; ⟨_, e⟩, fun h1 h2 ⟨t0, sl, e⟩ k => ⟨t0, sl, k _ e⟩⟩
theorem xdo_ok (p : XdO d fs h) : ObjOk P w H h d (.ext (XdO d fs)) := ⟨p, let ⟨_, ⟨o, _, _, e, _⟩, _⟩ := p; ⟨o, e⟩, fun h1 h2 ⟨mA, ⟨o, es, ep, e, r⟩, q⟩ k => ⟨mA, ⟨o, es, ep, k o e, r⟩, q⟩⟩
theorem upd_id {o : HO} (e : H x = some o) : upd H x o = H := by
  funext b; unfold upd; split
  · rename_i q; rw [q, e]
  · rfl
end
/-- what is known of the class between, where its __init__ is asked -/
structure ExB (K : PySem.W.Frag) (B : Addr) : Prop where
  ga : PySem.W.specialIn K (.ref B) "__getattribute__" = some (some (.builtin "type.__getattribute__"))
  rd : PySem.W.readsIn K B (.type "type") = true
  it : PySem.W.findCls K (.ref B) (.type "type") "__init__" = some (.val (.builtin "ValueError.__init__"))
def tExI (C : Addr) (ta : TA) : TS := fun D σ H => ta σ H fun vs H1 => ∃ x r, vs = .ref x :: r ∧ r.length ≤ 1000 ∧ H1 x = some (.ext (ExO x C none)) ∧ D.nx σ H1
def tEx1 (C : Addr) (f : Str) (ta tv : TE) : TS := fun D σ H => tv σ H fun y H1 => ta σ H1 fun z H2 => ∃ x, z = .ref x ∧ H2 x = some (.ext (ExO x C none)) ∧ ∀ d, d ≠ x → H2 d = none → D.nx σ (upd (upd H2 x (.ext (ExO x C (some d)))) d (.ext (XdO d [(f, y)])))
def tEx2 (C : Addr) (f : Str) (ta tv : TE) : TS := fun D σ H => tv σ H fun y H1 => ta σ H1 fun z H2 => ∃ x d fs, z = .ref x ∧ d ≠ x ∧ H2 x = some (.ext (ExO x C (some d))) ∧ H2 d = some (.ext (XdO d fs)) ∧ fs.length < 100 ∧ D.nx σ (upd H2 d (.xd (putF f y fs)))
section
variable {X : Cx} {C fI B : Addr} {b f : Str} {e o value : Expr} {es : List Expr} {ta : TA} {to tv : TE} {p0 apos cpos epos pos pos' : Pos} {pl : Sem Bool}
theorem ps_exinit (hB : ExB X.K B) (q : ExI X.K C fI) (hm : X.mg b = some (.ref B)) (ha : PA X (e :: es) ta) (hg : Gl X b := by rfl) (hdb : (b == ("__debug__" : Str)) = false := by decide) (hsw : swapsWith (.Call (.Attribute (.Name b p0) "__init__" apos) (e :: es) [] cpos) none epos.line X.env = pure false := by rfl)
    (he : starEach (e :: es) X.env = (false, eval e X.env) :: starEach es X.env := by rfl) (hpl : (backTo cpos (starEach es X.env)).any (·.1) = false := by rfl)
    (ht : eval (.Call (.Attribute (.Name b p0) "__init__" apos) (e :: es) [] cpos) X.env = (do
      let ov ← eval (.Name b p0) X.env
      standAt apos.atName
      let (f, first) ← holding [ov] (getMethod ov "__init__" pl)
      callWith cpos f first (backTo cpos (starEach (e :: es) X.env)) (backToKw cpos (keywordEach [] X.env))) := by rfl) :
    PS X (.Expr (.Call (.Attribute (.Name b p0) "__init__" apos) (e :: es) [] cpos) epos) (tExI C ta) := by
  intro pins s σ H D I h
  refine wpAny_Expr_any ?_ I.quiet hsw
  refine PySem.W.methodCall_KW (pl := pl) (ld_glob I hg hm ?_ hdb) ht
  refine PySem.W.method_cls I.kIn hB.ga (PySem.W.cls_value I.kIn hB.rd hB.it rfl ?_)
  refine PyProof.Rows.callWith_builtin1 (thn (ha cpos pins _ σ H _ (I.tok _) h) fun us s1 ⟨vs, H1, I1, r1, x, r, ev, hl, hx, q1⟩ => ?_) he hpl
  subst ev
  cases r1 with
  | @cons _ u _ ur r0 rt =>
    obtain rfl : u = Value.ref x := r0
    obtain ⟨t0, sl, e1⟩ := (I1.hok x _ hx).1
    refine exf_init I1.kIn q e1 rfl rfl rfl (by rw [← rt.length, sizeLine_eq]; omega) ?_
    have e8 := Heap.get?_update_self (Obj.mapFields (·.setIfInBounds 0 (.ref s1.heap.objs.size))) (Heap.get?_push_of_some (h := s1.heap) { cls := .type "tuple", data := .seq ur.toArray } e1) rfl
    have J := I1.write (x := x) (e := x) (o := .ext (ExO x C none)) (t' := s1.toks) (h' := (s1.heap.push { cls := .type "tuple", data := .seq ur.toArray }).update x (Obj.mapFields (·.setIfInBounds 0 (.ref s1.heap.objs.size)))) (by rw [hx]; trivial) (.inl rfl)
      (fun c u hc ec => (Heap.get?_update_other _ _ (Ne.symm hc)).trans (Heap.get?_push_of_some _ ec)) ⟨_, e8⟩ (exo_ok ⟨_, _, e8⟩)
    rw [upd_id hx] at J
    exact ⟨σ, H1, J, q1⟩
theorem ps_exset1 (k : ExK X.K C) (ks : ExS X.K C) (nf : PySem.W.findIn X.K (.ref C) f = some none) (ho : PE X o to) (hv : PE X value tv) (hs : swapsWith value (some (.Attribute o f pos')) pos.line X.env = pure false := by rfl) :
    PS X (.Assign [.Attribute o f pos'] value pos) (tEx1 C f to tv) := by
  intro pins s σ H D I h
  refine plainObj_wpAny_Assign_Attribute (thn (hv pins s σ H _ I h) fun u s1 ⟨y, H1, I1, ry, q⟩ => thn (ho pins s1 σ H1 _ I1 q) fun ov s2 ⟨z, H2, I2, rz, x, ez, hx, q2⟩ => ?_) hs
  subst ez
  obtain rfl : ov = Value.ref x := rz
  obtain ⟨t0, sl, e1⟩ := (I2.hok x _ hx).1
  refine exf_set (mA := fun _ => none) (ns := []) I2.kIn k ks nf e1 rfl rfl (.inl ⟨rfl, fun _ => rfl⟩) PySem.Within.nil (by decide) fun h' tk d hdx hd g1 g2 g3 => ?_
  obtain rfl : d = s2.heap.objs.size := by
    rcases hd with hd | hd
    · cases hd
    · exact hd.2
  have lt : ∀ b ob, s2.heap.get? b = some ob → b ≠ s2.heap.objs.size := fun b ob e => Nat.ne_of_lt (Heap.lt_size e)
  have J := I2.write (x := x) (e := x) (o := .ext (ExO x C (some s2.heap.objs.size))) (t' := tk) (h' := h') (by rw [hx]; trivial) (.inl rfl) (fun c u hc ec => g3 c u hc (lt c u ec) ec) ⟨_, g1⟩ (exo_ok ⟨t0, sl, g1⟩)
  have hn : H2 s2.heap.objs.size = none := I2.fresh
  have J2 := Inv.track (a := s2.heap.objs.size) (o := .ext (XdO s2.heap.objs.size [(f, y)])) J (by rw [upd_ne hdx]; exact hn) (Ne.symm (Nat.ne_of_lt I2.lt)) (fun n c hc => by
      obtain ⟨_, oc, hoc, _⟩ := I2.cell n c hc
      exact lt c _ hoc) (fun p hp => lt _ _ (I2.pin p hp).1) (Heap.get?_none_of_le I2.sz) (xdo_ok ⟨_, g2, fun g => ?_, fun g hg => ?_⟩)
  · exact ⟨σ, _, J2, q2 _ hdx hn⟩
  · by_cases hgf : g = f
    · have hb : (g == f) = true := beq_iff_eq.mpr hgf
      simp only [List.lookup, hb, if_pos hgf]; exact ry
    · have hb : (g == f) = false := beq_eq_false_iff_ne.mpr hgf
      simp only [List.lookup, hb, if_neg hgf]; trivial
  · by_cases hgf : g = f
    · simp [hgf]
    · exact absurd (if_neg hgf) hg
theorem ps_exset2 (k : ExK X.K C) (ks : ExS X.K C) (nf : PySem.W.findIn X.K (.ref C) f = some none) (ho : PE X o to) (hv : PE X value tv) (hs : swapsWith value (some (.Attribute o f pos')) pos.line X.env = pure false := by rfl) :
    PS X (.Assign [.Attribute o f pos'] value pos) (tEx2 C f to tv) := by
  intro pins s σ H D I h
  refine plainObj_wpAny_Assign_Attribute (thn (hv pins s σ H _ I h) fun u s1 ⟨y, H1, I1, ry, q⟩ => thn (ho pins s1 σ H1 _ I1 q) fun ov s2 ⟨z, H2, I2, rz, x, d, fs, ez, hdx, hx, hd, hl, q2⟩ => ?_) hs
  subst ez
  obtain rfl : ov = Value.ref x := rz
  obtain ⟨t0, sl, e1⟩ := (I2.hok x _ hx).1
  obtain ⟨mA, n1, n2, n3⟩ := (I2.hok d _ hd).1
  refine exf_set (mA := mA) (ns := fs.map (·.1)) I2.kIn k ks nf e1 rfl rfl (.inr ⟨d, rfl, hdx, n1⟩) n3 (by rw [List.length_map]; omega) fun h' tk d' _ hd' g1 g2 g3 => ?_
  obtain rfl : d' = d := by
    rcases hd' with hd' | hd'
    · cases hd'; rfl
    · cases hd'.1
  refine ⟨σ, _, I2.write (x := d') (e := d') (o := .xd (putF f y fs)) (t' := tk) (h' := h') (by rw [hd]; trivial) (.inl rfl) (fun c u hc ec => ?_) ?_ ⟨_, g2, fun g => ?_⟩, q2⟩
  · by_cases hcx : c = x
    · rw [hcx, e1] at ec; rw [hcx, g1, ← ec]
    · exact g3 c u hcx hc ec
  · obtain ⟨oD, _, _, eD, _⟩ := g2
    exact ⟨oD, eD⟩
  · rw [lookup_putF]
    by_cases hgf : g = f
    · rw [if_pos hgf, if_pos hgf]; exact ry
    · rw [if_neg hgf, if_neg hgf]; exact n2 g
end
end DL
namespace DL
open PySem PySem.Spec PySem.Calls PyProof.Rows L2 Builtin.ObjectAttr
/-! ### C(a, b): an error with two fields -/
def spI (C : Addr) (f1 f2 : Str) : Sp := fun vs H Q _ => ∃ x v1 v2, vs = [.ref x, v1, v2] ∧ H x = some (.ext (ExO x C none)) ∧ ∀ d, d ≠ x → H d = none → Q .non (upd (upd H x (.ext (ExO x C (some d)))) d (.xd [(f1, v1), (f2, v2)]))
def tInit (C : Addr) (f1 f2 : Str) : TS := tSeq (tExI C (tCons (tVar 0) (tCons (tVar 1) (tCons (tVar 2) tNil)))) (tSeq (tEx1 C f1 (tVar 0) (tVar 1)) (tSeq (tEx2 C f2 (tVar 0) (tVar 2)) tNext))
/-- a class of errors with two fields: what making one promises -/
structure DfE (P : Program) (w : World) (K : PySem.W.Frag) (mg : Str → Option Value) (base : Heap) (x : Str) (f1 f2 : Str) : Prop where
  ex : ∃ C fI fd ps, ExI K C fI ∧ FnOk P w K mg base CX0 1 fI fd ps (spI C f1 f2) ∧ Binds K fd ps [] ∧ PySem.W.keepIn K (.ref C) = true ∧ PySem.W.nsIn K mainGlobals x = some (some (.ref C)) ∧ mg x = some (.ref C)
section
variable {P : Program} {w : World} {K : PySem.W.Frag} {mg : Str → Option Value} {base : Heap} {C fI : Addr} {fd : FuncData} {f1 f2 n0 n1 n2 qual x : Str} {st : Stmt}
theorem fn_exi (Fn : Fun K "__init__" qual st fI fd) (sc : FnScope [n0, n1, n2] [n0, n1, n2] (defScope st)) (hf : f1 ≠ f2)
    (hbody : ∀ (f : Addr) (cdv : Value) (A : Around) (outer : List Env) (s : Shared) (H : Hp) (E : XK), PSs (cxOf CX0 P w K mg base [n0, n1, n2] qual (defScope st) f cdv A outer s H E).nox (defBody st) (tInit C f1 f2)) : FnOk P w K mg base CX0 1 fI fd [n0, n1, n2] (spI C f1 f2) := by
  refine Fn.ok sc (fun vs H Q E h => ?_) (fun cdv A outer s H vs Q E hr h => ⟨_, hbody fI cdv A outer s H E, ?_⟩)
  · obtain ⟨x, v1, v2, rfl, _⟩ := h; rfl
  · obtain ⟨x, v1, v2, rfl, hx, q⟩ := h
    refine ⟨.ref x, rfl, v1, rfl, v2, rfl, x, [v1, v2], rfl, by simp, hx, v1, rfl, .ref x, rfl, x, rfl, hx, fun d hd hn => ⟨v2, rfl, .ref x, rfl, x, d, [(f1, v1)], rfl, hd, by rw [upd_ne (Ne.symm hd), upd_same], upd_same, by simp, ?_⟩⟩
    show Q .non _
    have e : putF f2 v2 [(f1, v1)] = [(f1, v1), (f2, v2)] := by
      show (if f1 = f2 then (f1, v2) :: [] else (f1, v1) :: putF f2 v2 []) = _
      rw [if_neg hf]; rfl
    rw [upd_upd, e]
    exact q d hd hn
end
section
variable {X : Cx} {C fI : Addr} {fd : FuncData} {f1 f2 x : Str} {ps : List Str} {k : Nat} {pins : List (Addr × Obj)} {σ : St} {H : Hp} {s : Shared} {Q : VK} {us : List Value} {v1 v2 : V}
theorem run_exmake (q : ExI X.K C fI) (F : FnOk X.prog X.w X.K X.mg X.base CX0 k fI fd ps (spI C f1 f2)) (hr : Room (k + 1) X.A) (hb : Binds X.K fd ps []) (I : Inv X pins σ H s) (r : Vals [v1, v2] us)
    (h : ∀ x d, H x = none → H d = none → d ≠ x → Q (.ref x) (upd (upd H x (.ext (ExO x C (some d)))) d (.xd [(f1, v1), (f2, v2)]))) : wpAny (model X.prog X.w) X.A (call (.ref C) us) (EP X pins σ Q) X.xe s := by
  have ul : us.length = 2 := r.length.symm
  refine exf_make I.kIn q (by rw [ul, sizeLine_eq]; omega) ?_
  have I1 := I.kept (h' := s.heap.push { cls := .type "tuple", data := .seq us.toArray }) (t' := s.toks) fun b u e => Heap.get?_push_of_some _ e
  have e2 : ((s.heap.push { cls := .type "tuple", data := .seq us.toArray }).push { cls := .ref C, data := .fields #[.ref s.heap.objs.size, .none, .none, .none, .bool false, .none] }).get? (s.heap.objs.size + 1) = some
      { cls := .ref C, data := .fields #[.ref s.heap.objs.size, .none, .none, .none, .bool false, .none] } := by heap_get
  have I2 := I1.laid (a := s.heap.objs.size + 1) (o := .ext (ExO (s.heap.objs.size + 1) C none)) (h' := (s.heap.push { cls := .type "tuple", data := .seq us.toArray }).push { cls := .ref C, data := .fields #[.ref s.heap.objs.size, .none, .none, .none, .bool false, .none] }) (t' := s.toks)
    (fun b u e => Heap.get?_push_of_some _ e) (Nat.le_of_eq (Heap.size_push _ _)) (exo_ok ⟨_, _, e2⟩)
  have hn : H (s.heap.objs.size + 1) = none := I.hok.fresh (Nat.le_succ _)
  have r2 : Vals [V.ref (s.heap.objs.size + 1), v1, v2] (Value.ref (s.heap.objs.size + 1) :: us) := .cons rfl r
  have hsp : spI C f1 f2 [V.ref (s.heap.objs.size + 1), v1, v2] (upd H (s.heap.objs.size + 1) (.ext (ExO (s.heap.objs.size + 1) C none))) (fun v H2 => v = .non ∧ Q (.ref (s.heap.objs.size + 1)) H2) E0 :=
    ⟨_, v1, v2, rfl, upd_same, fun d hd hdn => ⟨rfl, by
      rw [upd_upd]
      rw [upd_ne hd] at hdn
      exact h _ d hn hdn hd⟩⟩
  have hl : (Value.ref (s.heap.objs.size + 1) :: us).length = ps.length := by rw [← r2.length]; exact F.len _ _ _ _ hsp
  refine wpAny_call (codeAny_mono (F.run _ X.stack _ _ ⟨Value.ref (s.heap.objs.size + 1) :: us, []⟩ (Value.ref (s.heap.objs.size + 1) :: us) _ _ E0 (hr.make C us []) (I2.env0.make C us []) (by have := hb _ (Value.ref (s.heap.objs.size + 1) :: us) I2.kIn (by rw [List.append_nil]; exact hl); rwa [List.append_nil] at this) r2 hsp) fun z s' hq' => ?_)
  cases z with
  | error e => exact False.elim hq'
  | ok fl =>
    cases fl with
    | ret u =>
      obtain ⟨v, H', I3, rv, ev, q3⟩ := I2.after hq'
      subst ev
      exact ⟨rv, ⟨V.ref (s.heap.objs.size + 1), H', I3, rfl, q3⟩⟩
    | next => exact False.elim hq'
    | brk => exact False.elim hq'
    | cont => exact False.elim hq'
end
def fMkE (x f1 f2 : Str) (fs : List Fn) : Fn := fun δ => (fArgs fs δ).bind fun ds => .ok (.exc x [f1, f2] ds)
section
variable {X : Cx} {E : XK} {m : Md} {a e : Expr} {es : List Expr} {fs : List Fn} {fa : Fn} {x f c0 f1 f2 : Str} {p pos : Pos}
/-- C(a, b), as it is laid -/
def tMkE (C : Addr) (f1 f2 : Str) (t : TA) : TE := fun σ H Q => t σ H fun vs H1 => ∃ v1 v2, vs = [v1, v2] ∧ ∀ y d, H1 y = none → H1 d = none → d ≠ y → Q (.ref y) (upd (upd H1 y (.ext (ExO y C (some d)))) d (.xd [(f1, v1), (f2, v2)]))
theorem pe_makeE {C fI : Addr} {fd : FuncData} {ps : List Str} {t : TA} (q : ExI X.K C fI) (F : FnOk X.prog X.w X.K X.mg X.base CX0 1 fI fd ps (spI C f1 f2)) (hb : Binds X.K fd ps []) (kp : PySem.W.keepIn X.K (.ref C) = true) (hmg : X.mg x = some (.ref C)) (hr : Room 2 X.A) (ha : PA X (e :: es) t) (hg : Gl X x) (hdb : (x == ("__debug__" : Str)) = false)
    (he : starEach (e :: es) X.env = (false, eval e X.env) :: starEach es X.env) (hpl : (backTo pos (starEach es X.env)).any (·.1) = false) : PE X (.Call (.Name x p) (e :: es) [] pos) (tMkE C f1 f2 t) := by
  intro pins s σ H Q I t
  refine wpAny_Call_Name_kw (ld_glob I hg hmg ?_ hdb)
  refine PySem.W.callWith_K (h₀ := X.base) I.ok.mod.kin kp (thn (ha pos pins s σ H _ I t) fun us s1 ⟨vs, H1, I1, r, hq⟩ => ⟨I1.kIn, ?_⟩) he hpl
  obtain ⟨v1, v2, rfl, hq⟩ := hq
  exact run_exmake q F hr hb I1 r hq
/-- the new error stands for what it was made of -/
theorem rep_mkE {c : Cn} {σ : St} {δ : DS} {H1 : Hp} {C y d : Addr} {ds : List D} {v1 v2 : V} (hn : PySem.W.nsIn c.K mainGlobals x = some (some (.ref C))) (hm : notF m = true) (ab1 : Abs c σ δ H1) (r1 : Reps c.K (BOf c σ δ m) H1 ds [v1, v2]) (hy : H1 y = none) (hd : H1 d = none) (hne : d ≠ y) :
    Same H1 (upd (upd H1 y (.ext (ExO y C (some d)))) d (.xd [(f1, v1), (f2, v2)])) ∧ Rep c.K (BOf c σ δ m) (upd (upd H1 y (.ext (ExO y C (some d)))) d (.xd [(f1, v1), (f2, v2)])) (.exc x [f1, f2] ds) (.ref y) := by
  have s1 : Same H1 (upd (upd H1 y (.ext (ExO y C (some d)))) d (.xd [(f1, v1), (f2, v2)])) := (same_new hy _).trans (same_new (by rw [upd_ne hne]; exact hd) _)
  have nw : ∀ b, H1 b = none → BOf c σ δ m b := fun b hb => by
    have := ab1.av_new hb
    cases m with
    | W => exact this.1
    | S => exact this
    | F => simp [notF] at hm
  refine ⟨s1, ?_⟩
  simp only [Rep]
  exact ⟨y, C, some d, [(f1, v1), (f2, v2)], rfl, hn, nw y hy, ⟨ExO y C (some d), by rw [upd_ne (Ne.symm hne)]; exact upd_same, fun h' ⟨t0, sl, z⟩ => ⟨_, _, z, rfl, rfl, rfl⟩⟩, rfl, .inr ⟨d, rfl, nw d hd, upd_same⟩, Reps.same r1 s1⟩
theorem two_of {K : PySem.W.Frag} {B : Addr → Prop} {H : Hp} {ds : List D} {vs : List V} (r : Reps K B H ds vs) (h : ds.length = 2) : ∃ v1 v2, vs = [v1, v2] := by
  have hv := r.length.trans h
  rcases vs with _ | ⟨v1, _ | ⟨v2, _ | ⟨v3, t⟩⟩⟩
  · cases hv
  · cases hv
  · exact ⟨v1, v2, rfl⟩
  · simp at hv
theorem xmakeE (h : DfE X.prog X.w X.K X.mg X.base x f1 f2) (hr : Room 2 X.A) (ha : PA X (e :: es) (tXA X.K E m fs)) (hl : fs.length = 2 := by rfl) (hg : Gl X x := by rfl) (hdb : (x == ("__debug__" : Str)) = false := by decide)
    (he : starEach (e :: es) X.env = (false, eval e X.env) :: starEach es X.env := by rfl) (hpl : (backTo pos (starEach es X.env)).any (·.1) = false := by rfl) (hm : notF m = true := by rfl) : PE X (.Call (.Name x p) (e :: es) [] pos) (tX X.K E m (fMkE x f1 f2 fs)) := by
  obtain ⟨C, fI, fd, ps, q, F, hb, kp, hn, hmg⟩ := h.ex
  refine (pe_makeE q F hb kp hmg hr ha hg hdb he hpl).imp fun σ H Q t => ?_
  obtain ⟨c, δ, hK, ab, t⟩ := t
  refine ⟨c, δ, hK, ab, (Res.bind t).imp fun ds hds k vs H1 e1 r1 => ?_⟩
  obtain ⟨v1, v2, rfl⟩ := two_of r1 (by rw [fArgs_len hds]; exact hl)
  refine ⟨v1, v2, rfl, fun y d hy hd hne => ?_⟩
  obtain ⟨s1, r2⟩ := rep_mkE (x := x) (f1 := f1) (f2 := f2) (C := C) (by rw [hK]; exact hn) hm (ab.grow e1) r1 hy hd hne
  exact k (.ref y) _ (e1.trans s1) (Post.bOf' hm r2)
/-- e.f of an error with fields -/
def gAtE (c0 f : Str) : D → Ou D
  | .exc c ks ds => if c = c0 then (match (ks.zip ds).lookup f with
    | some d => .ok d
    | none => .bad) else .bad
  | _ => .bad
theorem reps_look {K : PySem.W.Frag} {B : Addr → Prop} {H : Hp} : ∀ {fs : List (Str × V)} {ds : List D}, Reps K B H ds (fs.map (·.2)) → ∀ {f : Str} {dd : D}, ((fs.map (·.1)).zip ds).lookup f = some dd → ∃ y, fs.lookup f = some y ∧ Rep K B H dd y
  | [], _, _, f, dd, e => by simp at e
  | (g, v) :: r, [], h, f, dd, e => by simp at e
  | (g, v) :: r, d :: ds, h, f, dd, e => by
    simp only [Reps, List.map_cons] at h
    obtain ⟨v', r', e', h1, h2⟩ := h
    cases e'
    rw [List.map_cons, List.zip_cons_cons, List.lookup_cons] at e
    rw [List.lookup_cons]
    split at e
    · rename_i hb; cases e; rw [hb]; exact ⟨_, rfl, h1⟩
    · rename_i hb; rw [hb]; exact reps_look h2 e
/-- what is known of a class of errors where a field is asked -/
structure ExF (K : PySem.W.Frag) (c f : Str) : Prop where
  ex : ∃ C, PySem.W.nsIn K mainGlobals c = some (some (.ref C)) ∧ ExK K C ∧ ExS K C ∧ PySem.W.findIn K (.ref C) f = some none
theorem xattrE (hF : ExF X.K c0 f) (ha : PE X a (tX X.K E m fa)) (hb : attributeBase a f X.env (eval a X.env) = eval a X.env := by rfl) (hm : notF m = true := by rfl) : PE X (.Attribute a f pos) (tX X.K E m (DL.f1 (gAtE c0 f) fa)) := by
  obtain ⟨C, hn, hk, hks, nf⟩ := hF.ex
  intro pins s σ H Q I t
  obtain ⟨c, δ, hK, ab, t⟩ := t
  refine attr_of hb (thn (ha pins s σ H (fun v H1 => ∃ y dx fs φ u, v = .ref y ∧ H1 y = some (.ext φ) ∧ (∀ h, φ h → ∃ o vs, h.get? y = some o ∧ o.cls = .ref C ∧ o.dict = some dx ∧ o.data = .fields vs) ∧ H1 dx = some (.xd fs) ∧ fs.lookup f = some u ∧ Q u H1) I ⟨c, δ, hK, ab, (Res.bind t).imp fun d _ k v H1 e1 r1 => ?_⟩) fun u s1 ⟨v, H1, I1, rv, hq⟩ => ?_)
  · have r1' : Rep X.K (BOf c σ δ m) H1 d v := by rw [← hK]; exact Post.bOf hm r1
    cases d with
    | exc cn ks ds =>
      simp only [gAtE] at k
      by_cases hc : cn = c0
      · rw [if_pos hc] at k
        subst hc
        simp only [Rep] at r1'
        obtain ⟨y, C', dx, fs, rfl, hns, _, ⟨φ, hy, hφ⟩, hks', h3, h4⟩ := r1'
        rw [hn] at hns
        cases hns
        subst hks'
        cases e : ((fs.map (·.1)).zip ds).lookup f with
        | none => rw [e] at k; exact k.elim
        | some dd =>
          rw [e] at k
          obtain ⟨u, hu, ru⟩ := reps_look h4 e
          rcases h3 with h3 | ⟨d', rfl, _, h7⟩
          · cases fs with
            | nil => cases hu
            | cons _ _ => cases h3
          · exact ⟨y, d', fs, φ, u, rfl, hy, hφ, h7, hu, k u H1 e1 (Post.bOf' hm (by rw [hK]; exact ru))⟩
      · rw [if_neg hc] at k; exact k.elim
    | _ => exact k.elim
  · obtain ⟨y, dx, fs, φ, z, rfl, hy, hφ, hd, hz, q⟩ := hq
    obtain rfl : u = Value.ref y := rv
    obtain ⟨o, vs, o1, o2, o3, o4⟩ := hφ _ (I1.hok y _ hy).1
    obtain ⟨mA, n1, n2⟩ := I1.hok dx _ hd
    have hr := n2 f
    rw [hz] at hr
    cases hu : mA f with
    | none => rw [hu] at hr; exact False.elim hr
    | some u' =>
      rw [hu] at hr
      have hr' : RelV z u' := hr
      exact exf_get I1.kIn hk hks nf o1 o2 o4 o3 n1 hu (handed_of hr') ⟨z, H1, I1.tok _, hr', q⟩
end
end DL
namespace DL
open PySem PySem.Spec PySem.Calls PyProof.Rows L2
/-! ### try: raise C(a, b) except Y as n: .. -/
/-- behind the note of the frame: frames' slots and the error changed, its trace is new -/
structure Cau (h h' : Heap) (fr : List Addr) (e C : Addr) (dx : Option Addr) : Prop where
  kp : ∀ b o, h.get? b = some o → b ≠ e → b ∉ fr → h'.get? b = some o
  fs : ∀ b o, h.get? b = some o → b ∈ fr → ∃ sl, h'.get? b = some { o with slots := sl }
  at_ : ∃ T vs sl oT ts, h'.get? e = some ⟨.ref C, dx, .fields vs, sl⟩ ∧ vs[1]? = some (.ref T) ∧ T ≠ e ∧ h.get? T = none ∧ h'.get? T = some oT ∧ oT.data = .fields ts ∧ 3 < ts.size
section
variable {M : Model} {A : Around} {E : Value → Shared → Prop} {s : Shared} {base h0 : Heap} {env : Env} {outer : List Env} {fr : List Addr} {L e C : Addr} {dx : Option Addr} {Q : Unit → Shared → Prop}
theorem cau_note (hfr : A.frames = some (env :: outer)) (hl : s.heap.FunFrames base (env :: outer)) (hf : env.frame = some L) (p : ExO e C dx s.heap)
    (h : ∀ h', Cau s.heap h' (frs (env :: outer)) e C dx → Q () { s with heap := h' }) : wpAny M A (noteFrame (.ref e) env) Q E s := by
  obtain ⟨t0, sl, he⟩ := p
  have hene : e ∉ frs (env :: outer) := fun hm => by
    obtain ⟨_, o, ho, hnf⟩ := hl.mem hm
    rw [he] at ho; cases ho; exact hnf _ rfl
  unfold noteFrame
  simp only [hf]
  refine wpAny_bind (wpAny_field he rfl (x := .none) rfl ?_)
  rw [if_neg (by decide)]
  refine wpAny_bind (wpAny_frameOf_fun hfr hl hf fun h₁ hs₁ => ?_)
  refine wpAny_bind (wpAny_entryPlaceOf fun pl hpl => ?_)
  unfold EntryCells.newEntry newFields
  refine wpAny_bind (wpAny_newObj_type ?_ (hpl.sizeOk5 _ _ _ _ _))
  have he₁ := (hs₁.2.1 e hene).trans he
  have new : ∀ b o, s.heap.get? b = some o → b ≠ h₁.objs.size := fun b o hb z => by
    obtain ⟨_, hs⟩ := hs₁.2.2 b o hb
    exact absurd (Heap.lt_size hs) (by rw [z]; exact Nat.lt_irrefl _)
  refine wpAny_setField (Heap.get?_push_of_some _ he₁) rfl (by simp) (h _ ⟨fun b o hb hbe hbf => ?_, fun b o hb hbf => ?_, h₁.objs.size, _, _, _, _, Heap.get?_update_self _ (Heap.get?_push_of_some _ he₁) rfl, rfl, Nat.ne_of_gt (Heap.lt_size he₁), ?_, (Heap.get?_update_other _ _ (Nat.ne_of_lt (Heap.lt_size he₁))).trans (Heap.get?_push_size h₁ rfl), rfl, ?_⟩)
  · exact (Heap.get?_update_other _ _ (Ne.symm hbe)).trans (Heap.get?_push_of_some _ ((hs₁.2.1 b hbf).trans hb))
  · obtain ⟨sl', hs⟩ := hs₁.2.2 b o hb
    exact ⟨sl', (Heap.get?_update_other _ _ (show e ≠ b from fun z => hene (by rw [z]; exact hbf))).trans (Heap.get?_push_of_some _ hs)⟩
  · cases q : s.heap.get? h₁.objs.size with
    | none => rfl
    | some o => exact absurd rfl (new _ o q)
  · simp only [List.size_toArray, List.length_append, List.length_cons, List.length_nil]; omega
theorem cau_land (c : Cau h0 s.heap fr e C dx) (hfr : ∀ b ∈ fr, ∃ o, h0.get? b = some o) (h : ∀ h', Cau h0 h' fr e C dx → Q () { s with heap := h' }) : wpAny M A (setFlight (.ref e) none) Q E s := by
  obtain ⟨T, vs, sl, oT, ts, he, h1, hTe, hTn, hT, hd, h3⟩ := c.at_
  have oth : ∀ b, b ≠ T → (s.heap.update T (Obj.mapFields (·.setIfInBounds 3 ((none : Option Addr).elim Value.none fun f => rawInt f)))).get? b = s.heap.get? b := fun b hb => Heap.get?_update_other _ _ (Ne.symm hb)
  have ne : ∀ b o, h0.get? b = some o → b ≠ T := fun b o hb z => by rw [z, hTn] at hb; cases hb
  unfold setFlight
  refine wpAny_bind (wpAny_field he rfl h1 ?_)
  rw [if_pos (show (Value.ref T != Value.none) = true from by simp)]
  refine wpAny_setField hT hd h3 (h _ ⟨fun b o hb hbe hbf => (oth b (ne b o hb)).trans (c.kp b o hb hbe hbf), fun b o hb hbf => ?_, T, vs, sl, _, _, (oth e (Ne.symm hTe)).trans he, h1, hTe, hTn, Heap.get?_update_self _ hT (Obj.isFreed_of_fields (Obj.data_mapFields hd _)), Obj.data_mapFields hd _, by simpa using h3⟩)
  obtain ⟨sl', hs⟩ := c.fs b o hb hbf
  exact ⟨sl', (oth b (ne b o hb)).trans hs⟩
end
/-- a caught error -/
def ErrO (e C : Addr) (dx : Option Addr) (h : Heap) : Prop := ∃ o vs, h.get? e = some o ∧ o.cls = .ref C ∧ o.dict = dx ∧ o.data = .fields vs
section
variable {X : Cx} {pins : List (Addr × Obj)} {σ : St} {H : Hp} {s : Shared} {h' : Heap} {e C : Addr} {dx : Option Addr}
theorem cau_inv (I : Inv X pins σ H s) (hx : H e = some (.ext (ExO e C dx))) (c : Cau s.heap h' (frs X.stack) e C dx) : Inv X pins σ (upd H e (.ext (ErrO e C dx))) { s with heap := h' } := by
  have ne : ∀ b, H b = none → b ≠ e := fun b hb z => by rw [z, hx] at hb; cases hb
  obtain ⟨T, vs, sl, oT, ts, he, _⟩ := c.at_
  refine I.call' (s' := { s with heap := h' }) (ch := []) rfl ⟨fun b o hb n hf _ => c.kp b o hb (ne b n) hf, fun b o hb _ hf _ => c.fs b o hb hf, fun b o hb n _ => by rw [upd_ne (ne b n)]; exact n, fun b o hb _ => ?_, fun b xs z => ?_, fun b o u z => ?_, fun b ps z => ?_⟩ (fun b ob z => ?_) I.bare fun b hb => by simp at hb
  · by_cases hbe : b = e
    · exact ⟨_, by rw [hbe]; exact he⟩
    · by_cases hf : b ∈ frs X.stack
      · obtain ⟨sl', q⟩ := c.fs b o hb hf
        exact ⟨_, q⟩
      · exact ⟨_, c.kp b o hb hbe hf⟩
  · rw [upd_ne (ne_of z hx (by intro w; cases w))]; exact z
  · rw [upd_ne (ne_of z hx (by intro w; cases w))]; exact z
  · exact ⟨#[], by rw [upd_ne (ne_of z hx (by intro w; cases w)), Array.append_empty]; exact z⟩
  · by_cases hbe : b = e
    · subst hbe
      rw [upd_same] at z
      cases z
      exact ⟨⟨_, _, he, rfl, rfl, rfl⟩, ⟨_, he⟩, fun g1 g2 ⟨o, vs, z1, z2⟩ kp => ⟨o, vs, kp o z1, z2⟩⟩
    · rw [upd_ne hbe] at z
      refine (I.hok b ob z).stay (fun d u hd q => c.kp d u q ?_ ?_) (fun d q => ?_) fun d xs q => ?_
      · rcases hd with rfl | hd
        · exact hbe
        · exact ne_of hd hx (by intro w; cases w)
      · intro w
        have := I.stkFree d w
        rcases hd with rfl | hd
        · rw [z] at this; cases this
        · rw [hd] at this; cases this
      · rw [upd_ne (ne_of q hx (by intro w; cases w))]; exact q
      · rw [upd_ne (ne_of q hx (by intro w; cases w))]; exact q
end
section
variable {prog : Program} {w : World} {A : Around} {E : Value → Shared → Prop} {s : Shared} {K : PySem.W.Frag} {C fI : Addr} {ex : Expr} {env : Env} {pos : Pos} {Q : Flow → Shared → Prop}
theorem exf_Raise (q : ExI K C fI) (hh : A.handled = none) (h : wpAny (model prog w) A (eval ex env) (fun v s₁ => ∃ e dx, v = .ref e ∧ K.In s₁.heap ∧ ExO e C dx s₁.heap ∧ E (.ref e) s₁) E s) : wpAny (model prog w) A (exec (.Raise (some ex) none pos) env) Q E s := by
  rw [arm_exec_Raise]
  refine wpAny_bind (wpAny_standAt ?_)
  show wpAny _ _ (raiseStmt env (some (do let v ← eval ex env; standAt pos; pure v)) none) _ _ _
  unfold raiseStmt
  refine wpAny_bind (wpAny_bind (wpAny_mono h (fun v s₁ h₁ => wpAny_bind (wpAny_standAt (wpAny_pure ?_))) fun _ _ z => z))
  obtain ⟨e, dx, rfl, X, ⟨t0, sl, he⟩, hE⟩ := h₁
  obtain ⟨bm, N, nm, qn, bs, hdct, sn, sub, ab, col, dd, k0, k1, k2, k3, k5, mN, hC, hN, hi, T⟩ := exiObj X q
  have hcB : (Value.ref C :: bm).contains (.type "BaseException") = true := by rw [List.contains_cons, T.hasType PySem.F.excBase_ValueError.hasBase, Bool.or_true]
  obtain ⟨hp, g, d, tk, os⟩ := s₁
  repeat (first | with_reducible refine wpAny_loadPart_at he ?_ | with_reducible refine wpAny_loadPart_at hC ?_ | (with_reducible refine wpAny_isSubtype_exc hC ?_; rw [hcB]) | wp_step)
  exact wpAny_raiseNew_none hh hE
end
/-- the error's name is bound in the clause, and gone behind it -/
def asE (i : Nat) (d : D) (S : Sm) : Sm := fun δ => (S (δ.set i (.val d))).bind fun r => match r with
  | .nx δ' => .ok (.nx (δ'.set i .un))
  | .rt d => .ok (.rt d)
  | _ => .bad
def sTryR (i : Nat) (x f1 f2 : Str) (fs : List Fn) (S : Sm) : Sm := fun δ => (noex (fArgs fs δ)).bind fun ds => asE i (.exc x [f1, f2] ds) S δ
section
variable {X : Cx} {x y n f1 f2 : Str} {Y : Addr} {fs : List Fn} {e : Expr} {es : List Expr} {p cpos rpos np hp pos : Pos} {b₀ : Stmt} {suite : List Stmt} {fr : Rm} {S : Sm}
theorem xs_tryR (i : Nat) (h : DfE X.prog X.w X.K X.mg X.base x f1 f2) (hr : Room 2 X.A) (hN : X.N.Nodup) (ha : PA X (e :: es) (tXA X.K E0 .S fs)) (hY : X.mg y = some (.ref Y))
    (hit : ∃ C, PySem.W.nsIn X.K mainGlobals x = some (some (.ref C)) ∧ PySem.W.exmOne X.K (.ref C) (.ref Y) = some true) (hs : ∀ ea, PSs (Cx.suite X ea) (b₀ :: suite) (tS X.K E0 fr S))
    (hi : X.N[i]? = some n := by rfl) (hk : X.env.scope.names.lookup n = some .local := by rfl) (hc : X.calm = true := by rfl) (hst : X.stack = X.env :: X.outer := by rfl) (hfl : X.env.frame = some X.env.locals := by rfl)
    (hl : fs.length = 2 := by rfl) (hg : Gl X x := by rfl) (hgY : Gl X y := by rfl) (hdb : (x == ("__debug__" : Str)) = false := by decide) (hdbY : (y == ("__debug__" : Str)) = false := by decide)
    (he : starEach (e :: es) X.env = (false, eval e X.env) :: starEach es X.env := by rfl) (hpl : (backTo cpos (starEach es X.env)).any (·.1) = false := by rfl) (hxe : X.xe = fun _ _ => False := by rfl) :
    PS X (.Try [.Raise (some (.Call (.Name x p) (e :: es) [] cpos)) none rpos] [.ExceptHandler (some (.Name y np)) (some n) (b₀ :: suite) hp] [] [] pos) (tS X.K E0 fr (sTryR i x f1 f2 fs S)) := by
  obtain ⟨C, fI, fd, ps, q, F, hb, kp, hn, hmg⟩ := h.ex
  obtain ⟨C', hn', hex⟩ := hit
  rw [hn] at hn'
  cases hn'
  intro pins s σ H D I t
  obtain ⟨c, δ, hK, ab, t⟩ := t
  unfold sTryR at t
  cases hds : fArgs fs δ with
  | bad => rw [hds] at t; exact t.elim
  | ex z => rw [hds] at t; exact t.elim
  | ok ds =>
    rw [hds] at t
    have t' : Res X.K E0 c.H₀ (asE i (.exc x [f1, f2] ds) S δ) (EndP c fr D) := t
    refine wpAny_Try_except (wpAny_execs_cons (exf_Raise q (I.ok.hd hc) (wpAny_mono (pe_makeE q F hb kp hmg hr ha hg hdb he hpl pins s σ H (fun v H3 => ∃ H1 v1 v2 ya d, v = .ref ya ∧ Same H H1 ∧ Reps c.K (Av c σ δ) H1 ds [v1, v2] ∧ H1 ya = none ∧ H1 d = none ∧ d ≠ ya ∧ H3 = upd (upd H1 ya (.ext (ExO ya C (some d)))) d (.xd [(f1, v1), (f2, v2)])) I
      ⟨c, δ, hK, ab, by
        rw [hds]
        intro vs H1 e1 r1
        obtain ⟨v1, v2, rfl⟩ := two_of r1 (by rw [fArgs_len hds]; exact hl)
        exact ⟨v1, v2, rfl, fun ya d hy hd hne => ⟨H1, v1, v2, ya, d, rfl, e1, r1, hy, hd, hne, rfl⟩⟩⟩) (fun u s1 ⟨v, H3, I1, rv, H1, v1, v2, ya, d, ev, e1, r1, hy, hd, hne, eH⟩ => ?_) fun _ _ z => by rw [hxe] at z; exact z.elim)))
    subst ev eH
    obtain rfl : u = Value.ref ya := rv
    have hx : upd (upd H1 ya (.ext (ExO ya C (some d)))) d (.xd [(f1, v1), (f2, v2)]) ya = some (.ext (ExO ya C (some d))) := by rw [upd_ne (Ne.symm hne)]; exact upd_same
    have po : ExO ya C (some d) s1.heap := (I1.hok ya _ hx).1
    refine ⟨ya, some d, rfl, I1.kIn, po, ?_⟩
    have frm : X.A.frames = some (X.env :: X.outer) := by rw [← hst]; exact I1.ok.frames
    have ff : s1.heap.FunFrames X.base (X.env :: X.outer) := by rw [← hst]; exact I1.stack
    have fex : ∀ b ∈ frs (X.env :: X.outer), ∃ o, s1.heap.get? b = some o := fun b hb => by
      obtain ⟨_, o, ho, _⟩ := ff.mem hb
      exact ⟨o, ho⟩
    refine cau_note frm ff hfl po fun h4 c4 => cau_land (s := { s1 with heap := h4 }) c4 fex fun h5 c5 => ?_
    have J5 := cau_inv I1 hx (by rw [hst]; exact c5)
    obtain ⟨T, vs, sl, oT, ts, he5, _⟩ := c5.at_
    have LT : PySem.W.Looks (model X.prog X.w) h5 (typeOf (.ref ya)) (.ref C) := (PySem.W.Looks.ld he5).andThen .now
    have J : Inv (Cx.suite X ya) pins σ _ { s1 with heap := h5 } := Inv.suite J5 ya
    refine wpAny_handleBy_cons (codeAny_handlers_test (ld_glob J hgY hY ?_ hdbY)) (by intro w; cases w)
    refine (PySem.W.exm_one J5.kIn LT hex).here ?_
    refine codeAny_handlers_suite_as (cau_land (s := { s1 with heap := h5 }) c5 fex fun h6 c6 => ?_)
    have J6 := cau_inv I1 hx (by rw [hst]; exact c6)
    have s6 : Same H1 (upd (upd (upd H1 ya (.ext (ExO ya C (some d)))) d (.xd [(f1, v1), (f2, v2)])) ya (.ext (ErrO ya C (some d)))) := fun a o z => by
      have n1 : a ≠ ya := fun w => by rw [w, hy] at z; cases z
      have n2 : a ≠ d := fun w => by rw [w, hd] at z; cases z
      rw [upd_ne n1, upd_ne n2, upd_ne n1]; exact z
    have ab1 := ab.grow e1
    have rep : Rep c.K (Av c σ δ) (upd (upd (upd H1 ya (.ext (ExO ya C (some d)))) d (.xd [(f1, v1), (f2, v2)])) ya (.ext (ErrO ya C (some d)))) (.exc x [f1, f2] ds) (.ref ya) := by
      simp only [Rep]
      exact ⟨ya, C, some d, [(f1, v1), (f2, v2)], rfl, by rw [hK]; exact hn, ab1.av_new hy, ⟨ErrO ya C (some d), upd_same, fun h z => z⟩, rfl, .inr ⟨d, rfl, ab1.av_new hd, by rw [upd_ne hne]; exact upd_same⟩, Reps.same r1 s6⟩
    refine store_ok J6 hN hi (.inl hk) (v := .ref ya) rfl (fun s7 I7 => ?_) (.inr hk)
    have ab7 := ab.set_val (i := i) (e1.trans s6) rep
    refine wpAny_mono (hs ya pins _ _ _ { nx := fun σ' H' => D.nx (σ'.set i none) H', rt := D.rt } (Inv.suite I7 ya) ⟨c, _, hK, ⟨ab7, ab.pi⟩, (Res.bind t').imp fun z _ zk => ?_⟩) (fun f s3 sp => ?_) fun _ _ z => z.elim
    · cases z with
      | nx δ' => exact fun σ' H' a => zk _ H' (Abs.unset i a)
      | rt d => exact zk
      | bk δ' => exact zk.elim
      | ct δ' => exact zk.elim
    · show wpAny (model X.prog X.w) X.A (do bindName X.env n .none; unbindBehindTheSuite X.env n hp) (fun _ s₃ => SP X pins D f s₃) X.xe s3
      cases f with
      | next => obtain ⟨σ', H', I', z⟩ := sp; exact goes_ok (Inv.unsuite I.ok I') hN hi hk fun s4 I4 => ⟨_, _, I4, z⟩
      | brk => obtain ⟨σ', H', I', z⟩ := sp; exact False.elim z
      | cont => obtain ⟨σ', H', I', z⟩ := sp; exact False.elim z
      | ret u => obtain ⟨v, σ', H', I', r, z⟩ := sp; exact goes_ok (Inv.unsuite I.ok I') hN hi hk fun s4 I4 => ⟨v, _, _, I4, r, z⟩
end
/-! ### what the text's facts give -/
/-- a class of errors with two fields, as it stands in the text: its __init__ hands on to the class between, then stores -/
structure InE (K : PySem.W.Frag) (qual : Str) (st : Stmt) (C B : Addr) (f1 f2 : Str) : Prop where
  fn : ∃ fI fd, ExI K C fI ∧ Fun K "__init__" qual st fI fd
  kp : PySem.W.keepIn K (.ref C) = true
  es : ExS K C
  n1 : PySem.W.findIn K (.ref C) f1 = some none
  n2 : PySem.W.findIn K (.ref C) f2 = some none
  eb : ExB K B
section
variable {P : Program} {w : World} {K : PySem.W.Frag} {mg : Str → Option Value} {base : Heap} {C B fI : Addr} {f1 f2 n0 n1 n2 qual x : Str} {st : Stmt} {dd od an : Option Addr} {cd : ClassData} {sl osl : Array (Option Value)} {k0 k1 k2 k3 k5 : Option Value} {kV dc pm cdv ct : Value}
theorem inE_mk (l : K.lookup C = some ⟨.type "type", dd, .cls cd, sl⟩) (m : cd.mro = [.ref C, .ref B, .type "ValueError", .type "Exception", .type "BaseException", .type "object"]) (s : sl = #[k0, k1, k2, k3, some (.builtin "ValueError.__new__"), k5]) (d : cd.hasDel = false) (h : cd.hasDict = true)
    (t : PySem.W.tailIn K [.type "ValueError", .type "Exception", .type "BaseException", .type "object"] [.ref B, .type "ValueError", .type "Exception", .type "BaseException", .type "object"] = true) (o : PySem.W.nsOkIn K cd.ns = true) (i : PySem.W.nsIn K cd.ns "__init__" = some (some (.ref fI)))
    (lf : K.lookup fI = some ⟨.type "function", od, .func (PySem.W.fnOf "__init__" qual (defArgs st) (defBody st) (defScope st) .none kV dc pm an cdv ct), osl⟩) (c : PySem.W.codeIn K cdv qual = true) (kf : PySem.W.keepIn K (.ref fI) = true) (kp : PySem.W.keepIn K (.ref C) = true)
    (sa : PySem.W.findIn K (.ref C) "__setattr__" = some (some (.builtin "object.__setattr__"))) (a1 : PySem.W.findIn K (.ref C) f1 = some none) (a2 : PySem.W.findIn K (.ref C) f2 = some none)
    (g : PySem.W.specialIn K (.ref B) "__getattribute__" = some (some (.builtin "type.__getattribute__"))) (r : PySem.W.readsIn K B (.type "type") = true) (fc : PySem.W.findCls K (.ref B) (.type "type") "__init__" = some (.val (.builtin "ValueError.__init__"))) : InE K qual st C B f1 f2 where
  fn := ⟨fI, _, ⟨⟨dd, cd, sl, k0, k1, k2, k3, k5, _, l, m, s, d, t, o, i⟩, ⟨_, lf, rfl⟩⟩, fun_mk lf c kf⟩
  kp := kp
  es := ⟨⟨cd, B, by unfold PySem.W.clsIn; rw [l], h, m⟩, sa⟩
  n1 := a1
  n2 := a2
  eb := ⟨g, r, fc⟩
theorem dfE_mk (e : PySem.W.nsIn K mainGlobals x = some (some (.ref C)) ∧ mg x = some (.ref C)) (i : InE K qual st C B f1 f2)
    (hbody : ∀ {fI f : Addr} {cdv : Value} {A : Around} {outer : List Env} {s : Shared} {H : Hp} {E : XK}, ExI K C fI → PSs (cxOf CX0 P w K mg base [n0, n1, n2] qual (defScope st) f cdv A outer s H E).nox (defBody st) (tInit C f1 f2)) (hf : f1 ≠ f2 := by decide)
    (sc : FnScope [n0, n1, n2] [n0, n1, n2] (defScope st) := by exact ⟨rfl, rfl, rfl, by decide +kernel, rfl, by decide +kernel, by decide +kernel⟩) (hb : Bnd "__init__" qual st [n0, n1, n2] := by intro _ _ _ _ _ _; exact len3 fun _ _ _ => rfl) : DfE P w K mg base x f1 f2 := by
  obtain ⟨fI, fd, q, Fn⟩ := i.fn
  exact ⟨C, fI, fd, _, q, fn_exi Fn sc hf fun _ _ _ _ _ _ _ => hbody q, Fn.binds hb, i.kp, e.1, e.2⟩
theorem exF_mk {f : Str} (e : PySem.W.nsIn K mainGlobals x = some (some (.ref C)) ∧ mg x = some (.ref C)) (k : ExK K C) (i : InE K qual st C B f1 f2) (hf : PySem.W.findIn K (.ref C) f = some none) : ExF K x f := ⟨C, e.1, k, i.es, hf⟩
end
end DL
set_option maxHeartbeats 4000000
namespace Pr
open PySem PySem.Spec PyProof.Rows L2 DL
def top (i : Nat) : Stmt := PySem.Challenge.pw_pastdesk_k02_undone_told.main.body.getD i (.Pass ⟨0, 0, 0, 0⟩)
abbrev s__law_deed : Stmt := top 11
abbrev s__law_whole : Stmt := top 12
abbrev s__law_alone : Stmt := top 13
abbrev s__law_bears : Stmt := top 14
abbrev s__law_by_name : Stmt := top 15
abbrev s__law_by_base : Stmt := top 16
abbrev s_law : Stmt := top 17
abbrev s_Undone__init : Stmt := inClass (top 6) 0
def b__law_deed : Sm := (sSeq (sSet 1 (fC (.str ""))) (sSeq (sRng [(f2 gMod (fVar 0) (fC (.int 8)))] (gNm 2) (sSeq (sSet 1 (f2 gAdd (fVar 1) (f2 gIx (fC (.str "abcdefghijklmnopqrstuvwxyz")) (f2 gMod (f2 gAdd (f2 gDiv (fVar 0) (fC (.int 8))) (f2 gMul (fC (.int 5)) (fVar 2))) (fC (.int 26)))))) sNext)) (sSeq (sSet 1 (f2 gAdd (fVar 1) (f2 gIx (fC (.str "abcdefghijklmnopqrstuvwxyz")) (f2 gMod (f2 gDiv (fVar 0) (fC (.int 3))) (fC (.int 26)))))) (sSeq (sIf (fAsB (f2 gEq (f2 gMod (f2 gDiv (fVar 0) (fC (.int 5))) (fC (.int 3))) (fC (.int 0)))) (sSeq (sRet (fTup [(fVar 1)])) sNext) sNext) (sSeq (sIf (fAsB (f2 gEq (f2 gMod (f2 gDiv (fVar 0) (fC (.int 5))) (fC (.int 3))) (fC (.int 1)))) (sSeq (sRet (fTup [(fVar 1), (f2 gMod (f2 gDiv (fVar 0) (fC (.int 15))) (f2 gPow (fC (.int 10)) (fC (.int 30))))])) sNext) sNext) (sSeq (sRet (fTup [(fVar 1), (f2 gAdd (fSlS (fVar 1) (some (fC (.int 1))) none) (fC (.str "q"))), (f2 gSub (f2 gMod (f2 gDiv (fVar 0) (fC (.int 15))) (f2 gPow (fC (.int 10)) (fC (.int 30)))) (f2 gPow (fC (.int 10)) (fC (.int 30))))])) sNext))))))
def m__law_deed : List D → Ou D := runD false 3 b__law_deed
def b__law_whole : Sm := (sSeq (sRet (fAndV (f1 (gIs "int") (fVar 0)) (fNotV (f1 (gIs "bool") (fVar 0))))) sNext)
def m__law_whole : List D → Ou D := runD false 1 b__law_whole
def b__law_alone : Sm := (sSeq (sIf (fOrT (fTru (f1 (gIsE (isL [("Undone", false)])) (fVar 0))) (fOrT (fTru (f1 (gIsE (isL [("Undone", false)])) (fVar 0))) (fOrT (fTru (f1 (gIsE (isL [("Undone", false)])) (fVar 0))) (fTru (f1 (gIsE (isL [("Undone", false)])) (fVar 0)))))) (sSeq (sRet (fC (.bl false))) sNext) sNext) (sSeq (sIf (fOrT (fTru (f1 (gIsE (isL [("Undone", false)])) (fVar 0))) (fOrT (fTru (f1 (gIsE (isL [("Undone", false)])) (fVar 0))) (fTru (f1 (gIsE (isL [("Undone", false)])) (fVar 0))))) (sSeq (sRet (fC (.bl false))) sNext) sNext) (sSeq (sRet (fAndV (f1 (gIsE (isL [("Undone", true)])) (fVar 0)) (f1 (gIsE (isL [("Undone", true)])) (fVar 0)))) sNext)))
def m__law_alone : List D → Ou D := runD false 1 b__law_alone
def b__law_bears : Sm := (sSeq (sIf (fOrT (fNotT (fTru (fCall (m__law_whole) [(f1 (gAtE "Undone" "at") (fVar 0))]))) (fAsB (f2 gNe (f1 (gAtE "Undone" "at") (fVar 0)) (fVar 1)))) (sSeq (sRet (fC (.bl false))) sNext) sNext) (sSeq (sRet (fAndV (f1 (gIs "tuple") (f1 (gAtE "Undone" "deed") (fVar 0))) (f2 gEq (f1 (gAtE "Undone" "deed") (fVar 0)) (fVar 2)))) sNext))
def m__law_bears : List D → Ou D := runD false 3 b__law_bears
def b__law_by_name : Sm := (sSeq (sTryR 2 "Undone" "at" "deed" [(fVarS 0), (fVarS 1)] (sSeq (sSet 3 (fVarS 2)) sNext)) (sSeq (sRet (fAndV (fCall (m__law_bears) [(fVar 3), (fVar 0), (fVar 1)]) (fCall (m__law_alone) [(fVar 3)]))) sNext))
def m__law_by_name : List D → Ou D := runD false 4 b__law_by_name
def b__law_by_base : Sm := (sSeq (sTryR 2 "Undone" "at" "deed" [(fVarS 0), (fVarS 1)] (sSeq (sSet 3 (fVarS 2)) sNext)) (sSeq (sRet (fAndV (fCall (m__law_bears) [(fVar 3), (fVar 0), (fVar 1)]) (f1 (gIsE (isL [("Undone", true)])) (fVar 3)))) sNext))
def m__law_by_base : List D → Ou D := runD false 4 b__law_by_base
def b_law : Sm := (sSeq (sOwn 1 (fLst [])) (sSeq (sFor (f2 gCat (fSl (fVarS 0) none (some (fC (.int 60)))) (fLst [(fC (.int 7))])) (gNm 2) (sSeq (sApp 1 (fTup [(f2 gMod (f2 gDiv (fVar 2) (fC (.int 7))) (fC (.int 1073741824))), (fCall (m__law_deed) [(fVarS 2)])])) sNext)) (sSeq (fun δ => (sSet 3 (fComp (fItems (fVarS 1)) (gNm2 0 1) fYes (fMkE "Undone" "at" "deed" [(fVarS 0), (fVarS 1)]) 2 [])) (thaw 1 δ)) (sSeq (sRng [(fCall gLen [(fVar 1)])] (gNm 4) (sSeq (sIf (fOrT (fNotT (fTru (fCall (m__law_bears) [(f2 gIx (fVar 3) (fVar 4)), (f2 gIx (f2 gIx (fVar 1) (fVar 4)) (fC (.int 0))), (f2 gIx (f2 gIx (fVar 1) (fVar 4)) (fC (.int 1)))]))) (fNotT (fTru (fCall (m__law_alone) [(f2 gIx (fVar 3) (fVar 4))])))) (sSeq (sRet (fC (.bl false))) sNext) sNext) (sSeq (sIf (fOrT (fNotT (fTru (fCall (m__law_by_name) [(f2 gIx (f2 gIx (fVar 1) (fVar 4)) (fC (.int 0))), (f2 gIx (f2 gIx (fVar 1) (fVar 4)) (fC (.int 1)))]))) (fNotT (fTru (fCall (m__law_by_base) [(f2 gIx (f2 gIx (fVar 1) (fVar 4)) (fC (.int 0))), (f2 gIx (f2 gIx (fVar 1) (fVar 4)) (fC (.int 1)))])))) (sSeq (sRet (fC (.bl false))) sNext) sNext) sNext))) (sSeq (sRet (fC (.bl true))) sNext)))))
def m_law : List D → Ou D := runD false 5 b_law
structure Rc (P : Program) (w : World) (K : PySem.W.Frag) (mg : Str → Option Value) (base : Heap) (C_Bare C_Known C_NoDeed C_NoName C_NoText C_NoTime C_PastError C_Taken C_Undone : Addr) : Prop where
  e0 : PySem.W.nsIn K mainGlobals "Bare" = some (some (.ref C_Bare)) ∧ mg "Bare" = some (.ref C_Bare)
  e1 : PySem.W.nsIn K mainGlobals "Known" = some (some (.ref C_Known)) ∧ mg "Known" = some (.ref C_Known)
  e2 : PySem.W.nsIn K mainGlobals "NoDeed" = some (some (.ref C_NoDeed)) ∧ mg "NoDeed" = some (.ref C_NoDeed)
  e3 : PySem.W.nsIn K mainGlobals "NoName" = some (some (.ref C_NoName)) ∧ mg "NoName" = some (.ref C_NoName)
  e4 : PySem.W.nsIn K mainGlobals "NoText" = some (some (.ref C_NoText)) ∧ mg "NoText" = some (.ref C_NoText)
  e5 : PySem.W.nsIn K mainGlobals "NoTime" = some (some (.ref C_NoTime)) ∧ mg "NoTime" = some (.ref C_NoTime)
  e6 : PySem.W.nsIn K mainGlobals "PastError" = some (some (.ref C_PastError)) ∧ mg "PastError" = some (.ref C_PastError)
  e7 : PySem.W.nsIn K mainGlobals "Taken" = some (some (.ref C_Taken)) ∧ mg "Taken" = some (.ref C_Taken)
  e8 : PySem.W.nsIn K mainGlobals "Undone" = some (some (.ref C_Undone)) ∧ mg "Undone" = some (.ref C_Undone)
  y0 : ExK K C_Undone
  n0 : PySem.W.exmOne K (.ref C_Undone) (.ref C_PastError) = some true
  n1 : PySem.W.exmOne K (.ref C_Undone) (.ref C_Undone) = some true
  i0 : PySem.W.kitOne K (.ref C_Undone) (.ref C_Bare) = some false
  i1 : PySem.W.kitOne K (.ref C_Undone) (.ref C_Known) = some false
  i2 : PySem.W.kitOne K (.ref C_Undone) (.ref C_NoDeed) = some false
  i3 : PySem.W.kitOne K (.ref C_Undone) (.ref C_NoName) = some false
  i4 : PySem.W.kitOne K (.ref C_Undone) (.ref C_NoText) = some false
  i5 : PySem.W.kitOne K (.ref C_Undone) (.ref C_NoTime) = some false
  i6 : PySem.W.kitOne K (.ref C_Undone) (.ref C_PastError) = some true
  i7 : PySem.W.kitOne K (.ref C_Undone) (.ref C_Taken) = some false
  i8 : PySem.W.kitOne K (.ref C_Undone) (.ref C_Undone) = some true
  i9 : PySem.W.kitOne K (.ref C_Undone) (.type "ValueError") = some true
  w0 : InE K "Undone.__init__" s_Undone__init C_Undone C_PastError "at" "deed"
  t0 : Sr0 K mg "_law_deed" s__law_deed
  t1 : Sr0 K mg "_law_whole" s__law_whole
  t2 : Sr0 K mg "_law_alone" s__law_alone
  t3 : Sr0 K mg "_law_bears" s__law_bears
  t4 : Sr0 K mg "_law_by_name" s__law_by_name
  t5 : Sr0 K mg "_law_by_base" s__law_by_base
  t6 : Sr0 K mg "law" s_law
  z_ValueError : mg "ValueError" = none
  z_bool : mg "bool" = none
  z_int : mg "int" = none
  z_isinstance : mg "isinstance" = none
  z_len : mg "len" = none
  z_range : mg "range" = none
  z_tuple : mg "tuple" = none
section
variable {P : Program} {w : World} {K : PySem.W.Frag} {mg : Str → Option Value} {base : Heap} {C_Bare C_Known C_NoDeed C_NoName C_NoText C_NoTime C_PastError C_Taken C_Undone : Addr} (R : Rc P w K mg base C_Bare C_Known C_NoDeed C_NoName C_NoText C_NoTime C_PastError C_Taken C_Undone)
include R
theorem me_Undone : DfE P w K mg base "Undone" "at" "deed" := dfE_mk (n0 := "self") (n1 := "at") (n2 := "deed") R.e8 R.w0 fun q => pss_cons (ps_exinit R.w0.eb q R.e6.2 (pa_cons (pe_var (i := 0) rfl (.inl rfl)) (pa_cons (pe_var (i := 1) rfl (.inl rfl)) (pa_cons (pe_var (i := 2) rfl (.inl rfl)) pa_nil)))) (pss_cons (ps_exset1 R.y0 R.w0.es R.w0.n1 (pe_var (i := 0) rfl (.inl rfl)) (pe_var (i := 1) rfl (.inl rfl))) (pss_cons (ps_exset2 R.y0 R.w0.es R.w0.n2 (pe_var (i := 0) rfl (.inl rfl)) (pe_var (i := 2) rfl (.inl rfl))) pss_nil))
theorem xf_Undone_at : ExF K "Undone" "at" := exF_mk R.e8 R.y0 R.w0 R.w0.n1
theorem xf_Undone_deed : ExF K "Undone" "deed" := exF_mk R.e8 R.y0 R.w0 R.w0.n2
theorem df__law_deed : Df P w K mg base "_law_deed" 1 ["_law_cell"] false m__law_deed := df_mk (N := ["_law_cell", "_law_word", "_law_k"]) (F := b__law_deed) R.t0 fun nd hr => by
  exact (by refine xs_cons ?_ ?_; exact (xs_set 1 nd xstr); exact (by refine xs_cons ?_ ?_; exact (xs_rng1 PassesOwn.never rfl R.z_range (xa_cons (xop od_mod (xv 0) xint) xa_nil) (xg_name 2 nd) (by refine xs_cons ?_ ?_; exact (xs_set 1 nd (xop od_add (xv 1) (xix xstr (xop od_mod (xop od_add (xop od_div (xv 0) xint) (xop od_mul xint (xv 2))) xint)))); exact xs_nil)); exact (by refine xs_cons ?_ ?_; exact (xs_set 1 nd (xop od_add (xv 1) (xix xstr (xop od_mod (xop od_div (xv 0) xint) xint)))); exact (by refine xs_cons ?_ ?_; exact (xs_if (xt_cmp (od_eq hr.units) (xop od_mod (xop od_div (xv 0) xint) xint) xint (nomark _)) (by refine xs_cons ?_ ?_; exact (xs_ret (xtup (xa_cons (xv 1) xa_nil))); exact xs_nil) xs_nil); exact (by refine xs_cons ?_ ?_; exact (xs_if (xt_cmp (od_eq hr.units) (xop od_mod (xop od_div (xv 0) xint) xint) xint (nomark _)) (by refine xs_cons ?_ ?_; exact (xs_ret (xtup (xa_cons (xv 1) (xa_cons (xop od_mod (xop od_div (xv 0) xint) (xop od_pow xint xint)) xa_nil)))); exact xs_nil) xs_nil); exact (by refine xs_cons ?_ ?_; exact (xs_ret (xtup (xa_cons (xv 1) (xa_cons (xop od_add (xslS (xv 1) (po_some' xint) po_none') xstr) (xa_cons (xop od_sub (xop od_mod (xop od_div (xv 0) xint) (xop od_pow xint xint)) (xop od_pow xint xint)) xa_nil))))); exact xs_nil))))))
theorem df__law_whole : Df P w K mg base "_law_whole" 1 ["_law_found"] false m__law_whole := df_mk (N := ["_law_found"]) (F := b__law_whole) R.t1 fun nd hr => by
  exact (by refine xs_cons ?_ ?_; exact (xs_ret (xand (xis R.z_isinstance R.z_int (xv 0)) (xone (xnot (xis R.z_isinstance R.z_bool (xv 0)))))); exact xs_nil)
theorem df__law_alone : Df P w K mg base "_law_alone" 1 ["_law_made"] false m__law_alone := df_mk (N := ["_law_made"]) (F := b__law_alone) R.t2 fun nd hr => by
  exact (by refine xs_cons ?_ ?_; exact (xs_if (PW.pt (xw_or (xt (xisE R.z_isinstance R.e5.2 (is_cons R.e8.1 R.y0 R.i5 is_nil) (xv 0))) (xw_or (xt (xisE R.z_isinstance R.e2.2 (is_cons R.e8.1 R.y0 R.i2 is_nil) (xv 0))) (xw_or (xt (xisE R.z_isinstance R.e7.2 (is_cons R.e8.1 R.y0 R.i7 is_nil) (xv 0))) (xw_or1 (xt (xisE R.z_isinstance R.e0.2 (is_cons R.e8.1 R.y0 R.i0 is_nil) (xv 0)))))))) (by refine xs_cons ?_ ?_; exact (xs_ret xbl); exact xs_nil) xs_nil); exact (by refine xs_cons ?_ ?_; exact (xs_if (PW.pt (xw_or (xt (xisE R.z_isinstance R.e4.2 (is_cons R.e8.1 R.y0 R.i4 is_nil) (xv 0))) (xw_or (xt (xisE R.z_isinstance R.e3.2 (is_cons R.e8.1 R.y0 R.i3 is_nil) (xv 0))) (xw_or1 (xt (xisE R.z_isinstance R.e1.2 (is_cons R.e8.1 R.y0 R.i1 is_nil) (xv 0))))))) (by refine xs_cons ?_ ?_; exact (xs_ret xbl); exact xs_nil) xs_nil); exact (by refine xs_cons ?_ ?_; exact (xs_ret (xand (xisE R.z_isinstance R.e6.2 (is_cons R.e8.1 R.y0 R.i6 is_nil) (xv 0)) (xone (xisET R.z_isinstance R.z_ValueError (isT_cons R.e8.1 R.y0 R.i9 isT_nil) (xv 0))))); exact xs_nil)))
theorem df__law_bears : Df P w K mg base "_law_bears" 2 ["_law_made", "_law_time", "_law_deed_here"] false m__law_bears := df_mk (N := ["_law_made", "_law_time", "_law_deed_here"]) (F := b__law_bears) R.t3 fun nd hr => by
  exact (by refine xs_cons ?_ ?_; exact (xs_if (PW.pt (xw_or (xt_not (xt (xcl (df__law_whole R) hr (xa_cons (xattrE (xf_Undone_at R) (xv 0)) xa_nil)))) (xw_or1 (xt_cmp (od_ne hr.units) (xattrE (xf_Undone_at R) (xv 0)) (xv 1) (nomark _))))) (by refine xs_cons ?_ ?_; exact (xs_ret xbl); exact xs_nil) xs_nil); exact (by refine xs_cons ?_ ?_; exact (xs_ret (xand (xis R.z_isinstance R.z_tuple (xattrE (xf_Undone_deed R) (xv 0))) (xone (xcmp (od_eq hr.units) (xattrE (xf_Undone_deed R) (xv 0)) (xv 2) (nomark _))))); exact xs_nil))
theorem df__law_by_name : Df P w K mg base "_law_by_name" 3 ["_law_time", "_law_deed_here"] false m__law_by_name := df_mk (N := ["_law_time", "_law_deed_here", "e", "_law_kept"]) (F := b__law_by_name) R.t4 fun nd hr => by
  exact (by refine xs_cons ?_ ?_; exact (xs_tryR 2 (me_Undone R) (hr.mono (by omega)) nd (xa_cons (xvS 0) (xa_cons (xvS 1) xa_nil)) R.e8.2 ⟨_, R.e8.1, R.n1⟩ (fun _ => (by refine xs_cons ?_ ?_; exact (xs_set 3 nd (xvS 2)); exact xs_nil))); exact (by refine xs_cons ?_ ?_; exact (xs_ret (xand (xcl (df__law_bears R) hr (xa_cons (xv 3) (xa_cons (xv 0) (xa_cons (xv 1) xa_nil)))) (xone (xcl (df__law_alone R) hr (xa_cons (xv 3) xa_nil))))); exact xs_nil))
theorem df__law_by_base : Df P w K mg base "_law_by_base" 3 ["_law_time", "_law_deed_here"] false m__law_by_base := df_mk (N := ["_law_time", "_law_deed_here", "e", "_law_kept"]) (F := b__law_by_base) R.t5 fun nd hr => by
  exact (by refine xs_cons ?_ ?_; exact (xs_tryR 2 (me_Undone R) (hr.mono (by omega)) nd (xa_cons (xvS 0) (xa_cons (xvS 1) xa_nil)) R.e6.2 ⟨_, R.e8.1, R.n0⟩ (fun _ => (by refine xs_cons ?_ ?_; exact (xs_set 3 nd (xvS 2)); exact xs_nil))); exact (by refine xs_cons ?_ ?_; exact (xs_ret (xand (xcl (df__law_bears R) hr (xa_cons (xv 3) (xa_cons (xv 0) (xa_cons (xv 1) xa_nil)))) (xone (xisE R.z_isinstance R.e8.2 (is_cons R.e8.1 R.y0 R.i8 is_nil) (xv 3))))); exact xs_nil))
theorem fn_law {f : Addr} {fd : FuncData} (S : Fun K "law" "law" s_law f fd) : FnOk P w K mg base CX0 4 f fd ["_law_script"] (spD K false 1 m_law) := fn_mk (N := ["_law_script", "_law_rows", "_law_cell", "_law_made", "_law_k"]) (F := b_law) S fun nd hr => by
  exact (by refine xs_cons ?_ ?_; exact (xs_own 1 nd (xlst xa_nil)); exact (by refine xs_cons ?_ ?_; exact (xs_for PassesOwn.never rfl (toS (xcat (toS (xsl (xvS 0) po_none' (po_some' xint))) (toS (xlst (xa_cons xint xa_nil))))) (xg_name 2 nd) (by refine xs_cons ?_ ?_; exact (xs_app 1 (xtup (xa_cons (xop od_mod (xop od_div (xv 2) xint) xint) (xa_cons (xcl (df__law_deed R) hr (xa_cons (xvS 2) xa_nil)) xa_nil)))); exact xs_nil)); exact (by refine xs_cons ?_ ?_; exact (xs_thaw 1 (xs_setC 3 nd (by refine xcompL (N' := ["_law_time", "_law_deed_here"]) (k := 2) (ix := []) (cnames _ ["_law_script", "_law_rows", "_law_cell", "_law_made", "_law_k"] ?_) ?_ fun _ _ _ _ _ => ⟨?_, ?_, ?_⟩; exact (by first | decide +kernel | (change cnOk (defScope s_law) _ _ _ _ _ = true; decide +kernel)); exact (xvS 1); exact (xg_2 0 1 (show (["_law_time", "_law_deed_here"] : List Str).Nodup from by decide +kernel)); exact xc_yes; exact (xmakeE (me_Undone R) (hr.mono (by omega)) (xa_cons (xvS 0) (xa_cons (xvS 1) xa_nil)))))); exact (by refine xs_cons ?_ ?_; exact (xs_rng1 PassesOwn.never rfl R.z_range (xa_cons (xb cd_len R.z_len (xa_cons (xv 1) xa_nil)) xa_nil) (xg_name 4 nd) (by refine xs_cons ?_ ?_; exact (xs_if (PW.pt (xw_or (xt_not (xt (xcl (df__law_bears R) hr (xa_cons (xix (xv 3) (xv 4)) (xa_cons (xix (xix (xv 1) (xv 4)) xint) (xa_cons (xix (xix (xv 1) (xv 4)) xint) xa_nil)))))) (xw_or1 (xt_not (xt (xcl (df__law_alone R) hr (xa_cons (xix (xv 3) (xv 4)) xa_nil))))))) (by refine xs_cons ?_ ?_; exact (xs_ret xbl); exact xs_nil) xs_nil); exact (by refine xs_cons ?_ ?_; exact (xs_if (PW.pt (xw_or (xt_not (xt (xcl (df__law_by_name R) hr (xa_cons (xix (xix (xv 1) (xv 4)) xint) (xa_cons (xix (xix (xv 1) (xv 4)) xint) xa_nil))))) (xw_or1 (xt_not (xt (xcl (df__law_by_base R) hr (xa_cons (xix (xix (xv 1) (xv 4)) xint) (xa_cons (xix (xix (xv 1) (xv 4)) xint) xa_nil)))))))) (by refine xs_cons ?_ ?_; exact (xs_ret xbl); exact xs_nil) xs_nil); exact xs_nil))); exact (by refine xs_cons ?_ ?_; exact (xs_ret xbl); exact xs_nil)))))
end
theorem all_mk {l : PySem.W.OpenLaw} {w : World} {K : PySem.W.Frag} {mg : Str → Option Value} {fa C_Bare C_Known C_NoDeed C_NoName C_NoText C_NoTime C_PastError C_Taken C_Undone : Addr} (h : Heap) (R : ∀ base, Rc l.prog w K mg base C_Bare C_Known C_NoDeed C_NoName C_NoText C_NoTime C_PastError C_Taken C_Undone) (hfa : mg "law" = some (.ref fa)) :
    ∃ fd : FuncData, (∀ (s : Shared) (v : Value), BindsTo s fd ⟨[v], []⟩ [("_law_script", v)]) ∧ ∀ base : Heap, K.In base → base.Ns mainGlobals mg → FnOk l.prog w K mg base CX0 4 fa fd ["_law_script"] (spD K false 1 m_law) := by
  obtain ⟨f, fd, S, hm⟩ := (R h).t6.ex
  have e := hfa.symm.trans hm
  cases e
  obtain ⟨_, _, _, _, _, _, _, _, _, e, _, _⟩ := S.ex
  refine ⟨fd, fun s v => by rw [e]; exact .of_eq rfl, fun base _ _ => ?_⟩
  exact fn_law (R base) S
theorem walk {l : PySem.W.OpenLaw} {qq : Program} {loose : List Str} {XP : (Str → Option Value) → Heap → Prop} {YP : World → Heap → Prop} {d : DefRec} {K : Params → PySem.W.Frag} (hn : l.most = some 63) (hdf : d.params.defaults = [])
    (hY : ∀ (w : World) (h : Heap), YP w h → (K w.params).In h) (law : ∀ ns : List Int, ns.length ≤ 63 → m_law [.frl (ns.map D.int)] = .ok (.bl true))
    (F : ∀ (w : World) (mg : Str → Option Value) (fa : Addr) (h : Heap), (K w.params).In h → h.Ns mainGlobals mg → mg d.name = some (.ref fa) →
      ∃ fd : FuncData, (∀ (s : Shared) (u : Value), BindsTo s fd ⟨[u], []⟩ [("_law_script", u)]) ∧ ∀ base : Heap, (K w.params).In base → base.Ns mainGlobals mg → FnOk l.prog w (K w.params) mg base CX0 4 fa fd ["_law_script"] (spD (K w.params) false 1 m_law)) :
    PySem.W.WalkO qq loose XP YP l.row.toRowW d [] (fun f vs => PySem.call f vs) :=
  L2.walk_of (n := 63) (k := 4) (x := "_law_script") (CX := fun _ => CX0) (sp := fun w => spD (K w.params) false 1 m_law) hn (by decide) hdf ⟨rfl, by decide, by decide⟩ hY F (fun _ _ _ ns hl hO hS => law_sp hO hS (law ns hl)) fun _ _ _ _ _ z => z
end Pr
namespace Pr
open PySem L2 DL
/-! ### texts as lists of signs -/
def tx (l : List Nat) : Str := ⟨l.toArray⟩
theorem tx_list (l : List Nat) : (tx l).cps.toList = l := by simp [tx]
theorem tx_of (x : Str) : tx x.cps.toList = x := by cases x; simp [tx]
theorem tx_len (l : List Nat) : (tx l).length = l.length := by simp [tx, Str.length]
theorem tx_app (l r : List Nat) : tx l ++ tx r = tx (l ++ r) := by
  show (⟨(tx l).cps ++ (tx r).cps⟩ : Str) = _
  simp [tx]
theorem add_tx {l r : List Nat} (h : l.length + r.length ≤ 1000) : gAdd (.str (tx l)) (.str (tx r)) = .ok (.str (tx (l ++ r))) := by
  simp only [gAdd]
  rw [if_pos (by rw [tx_len, tx_len]; exact Nat.le_of_lt (small1000 h)), tx_app]
theorem slice_in (l : List Nat) (lo hi : Option Int) : ∃ M, Txt.slice (tx l) lo hi = tx M ∧ M.length ≤ l.length ∧ ∀ x ∈ M, x ∈ l := by
  refine ⟨(Txt.slice (tx l) lo hi).cps.toList, (tx_of _).symm, ?_, fun x hx => ?_⟩
  · have := Txt.slice_le (tx l) lo hi
    rw [tx_len] at this
    exact this
  · unfold Txt.slice at hx
    split at hx
    · rw [tx_list] at hx; exact hx
    · simp only [List.mem_filterMap] at hx
      obtain ⟨i, _, hi⟩ := hx
      have := Array.mem_of_getElem? hi
      rw [← Array.mem_toList_iff, tx_list] at this
      exact this
theorem one_at {x : Str} {j : Nat} (hs : x.length ≤ sizeLine) (hj : j < x.cps.toList.length) : gIx (.str x) (.int (j : Int)) = .ok (.str (tx [x.cps.toList[j]])) := by
  simp only [gIx]
  rw [if_pos hs, at_nat hj]; rfl
/-! ### deeds -/
theorem letter_at {j : Int} (h0 : 0 ≤ j) (h1 : j < 26) : ∃ c, gIx (.str "abcdefghijklmnopqrstuvwxyz") (.int j) = .ok (.str (tx [c])) := by
  have hl : ("abcdefghijklmnopqrstuvwxyz" : Str).cps.toList.length = 26 := by decide
  have hs : ("abcdefghijklmnopqrstuvwxyz" : Str).length ≤ sizeLine := by decide
  obtain ⟨k, rfl⟩ : ∃ k : Nat, j = (k : Int) := ⟨j.toNat, by omega⟩
  have hk : k < ("abcdefghijklmnopqrstuvwxyz" : Str).cps.toList.length := by rw [hl]; omega
  exact ⟨_, one_at hs hk⟩
def Dd (d : D) : Prop := (∃ ps, d = .tup ps) ∧ gEq d d = .ok (.bl true)
theorem dd1 (s : Str) : Dd (.tup [.str s]) := ⟨⟨_, rfl⟩, by simp [gEq, eqD, eqF, rk, its, eqT, zipO, eqV, toV]⟩
theorem dd2 (s : Str) (i : Int) : Dd (.tup [.str s, .int i]) := ⟨⟨_, rfl⟩, by simp [gEq, eqD, eqF, rk, its, eqT, zipO, eqV, toV]⟩
theorem dd3 (s t : Str) (i : Int) : Dd (.tup [.str s, .str t, .int i]) := ⟨⟨_, rfl⟩, by simp [gEq, eqD, eqF, rk, its, eqT, zipO, eqV, toV]⟩
theorem deed_eq (c : Int) : ∃ d, m__law_deed [.int c] = .ok d ∧ Dd d := by
  have m8 := mod_lt c (m := 8) (by decide)
  have m3 := mod_lt (c / 5) (m := 3) (by decide)
  have c30 : cPow 10 30 = true := by decide
  have hro : rOk (c % 8) = true := by simp [rOk]; omega
  unfold m__law_deed b__law_deed
  generalize hG : (sSeq (sSet 1 (f2 gAdd (fVar 1) (f2 gIx (fC (.str "abcdefghijklmnopqrstuvwxyz")) (f2 gMod (f2 gDiv (fVar 0) (fC (.int 3))) (fC (.int 26)))))) _ : Sm) = G
  suffices H : ∃ d, (sSeq (sRng [(f2 gMod (fVar 0) (fC (.int 8)))] (gNm 2) (sSeq (sSet 1 (f2 gAdd (fVar 1) (f2 gIx (fC (.str "abcdefghijklmnopqrstuvwxyz")) (f2 gMod (f2 gAdd (f2 gDiv (fVar 0) (fC (.int 8))) (f2 gMul (fC (.int 5)) (fVar 2))) (fC (.int 26)))))) sNext)) G) [.val (.int c), .val (.str (tx [])), .un] = .ok (.rt d) ∧ Dd d by
    obtain ⟨d, h1, h2⟩ := H
    exact ⟨d, run_rt ((set_to (i := 1) (d := .str (tx [])) rfl).trans h1), h2⟩
  rw [e_seq]
  refine Rng.useP (fun o : Ou Fl => ∃ d, o = .ok (.rt d) ∧ Dd d) (j := c % 8) rfl hro (fun i δ => ∃ (a : List Nat) (s2 : Sl), δ = [.val (.int c), .val (.str (tx a)), s2] ∧ a.length = i) ⟨[], _, rfl, rfl⟩ ?_ ?_
  · rintro i hi δ ⟨a, s2, rfl, ha⟩
    have mm := mod_lt (c / 8 + 5 * (i : Int)) (m := 26) (by decide)
    obtain ⟨z, hz⟩ := letter_at mm.1 mm.2
    have cm : cMul 5 (i : Int) = true := by simp only [cMul, Bool.or_eq_true, Bool.and_eq_true, decide_eq_true_eq]; omega
    have had := add_tx (l := a) (r := [z]) (by simp; omega)
    refine Goes.eq (δ2 := [.val (.int c), .val (.str (tx (a ++ [z]))), .val (.int (i : Int))]) ?_ ⟨a ++ [z], _, rfl, by simp [ha]⟩
    generalize tx (a ++ [z]) = A2 at *
    generalize tx [z] = Z at *
    generalize tx a = A at *
    simp (decide := true) -implicitDefEqProofs [tbM_tail, startD, fVar, fVarS, isT, at_0, at_1, at_2, at_3, at_4, cm, hz, had]
  · rintro δ ⟨a, s2, rfl, ha⟩
    have mm := mod_lt (c / 3) (m := 26) (by decide)
    obtain ⟨z, hz⟩ := letter_at mm.1 mm.2
    have had := add_tx (l := a) (r := [z]) (by simp; omega)
    obtain ⟨M, hM, hl, _⟩ := slice_in (a ++ [z]) (some 1) none
    have hq : ("q" : Str) = tx [113] := by decide
    have ha2 := add_tx (l := M) (r := [113]) (by simp at hl ⊢; omega)
    rw [← hq] at ha2
    have hsz : (tx (a ++ [z])).length ≤ sizeLine := by rw [tx_len]; exact Nat.le_of_lt (small1000 (by simp; omega))
    rw [← hG]
    generalize tx (M ++ [113]) = Q at *
    generalize tx M = M' at *
    generalize tx (a ++ [z]) = A2 at *
    generalize tx [z] = Z at *
    generalize tx a = A at *
    rcases (show c / 5 % 3 = 0 ∨ c / 5 % 3 = 1 ∨ c / 5 % 3 = 2 by omega) with h | h | h
    · exact ⟨_, by simp (decide := true) -implicitDefEqProofs [tbM_tail, startD, fVar, fVarS, isT, at_0, at_1, at_2, at_3, at_4, hz, had, h], dd1 A2⟩
    · exact ⟨.tup [.str A2, .int (c / 15 % 10 ^ 30)], by simp (decide := true) -implicitDefEqProofs [tbM_tail, startD, fVar, fVarS, isT, at_0, at_1, at_2, at_3, at_4, hz, had, h, c30], dd2 A2 _⟩
    · exact ⟨.tup [.str A2, .str Q, .int (c / 15 % 10 ^ 30 - 10 ^ 30)], by simp (decide := true) -implicitDefEqProofs [tbM_tail, startD, fVar, fVarS, isT, at_0, at_1, at_2, at_3, at_4, hz, had, h, c30, fSlS, fPart, hM, ha2, hsz], dd3 A2 Q _⟩
/-! ### what is asked of one error -/
abbrev Un_ (t : Int) (d : D) : D := .exc "Undone" ["at", "deed"] [.int t, d]
theorem whole_eq (i : Int) : m__law_whole [.int i] = .ok (.bl true) := by simp (decide := true) -implicitDefEqProofs [tbM_tail, startD, fVar, fVarS, isT, at_0, at_1, at_2, at_3, at_4, m__law_whole, b__law_whole]
theorem alone_eq (ks : List Str) (ds : List D) : m__law_alone [.exc "Undone" ks ds] = .ok (.bl true) := by simp (decide := true) -implicitDefEqProofs [tbM_tail, startD, fVar, fVarS, isT, at_0, at_1, at_2, at_3, at_4, m__law_alone, b__law_alone, gIsE, isL]
theorem at_t (t : Int) (d : D) : gAtE "Undone" "at" (Un_ t d) = .ok (.int t) := by rfl
theorem at_d (t : Int) (d : D) : gAtE "Undone" "deed" (Un_ t d) = .ok d := by rfl
theorem ne_t (t : Int) : gNe (.int t) (.int t) = .ok (.bl false) := by simp [gNe, eqD, eqF, rk, eqV, toV]
theorem bears_eq (t : Int) {d : D} (hd : Dd d) : m__law_bears [Un_ t d, .int t, d] = .ok (.bl true) := by
  obtain ⟨⟨ps, rfl⟩, he⟩ := hd
  have w := whole_eq t
  have n := ne_t t
  simp (decide := true) -implicitDefEqProofs [tbM_tail, startD, fVar, fVarS, isT, at_0, at_1, at_2, at_3, at_4, m__law_bears, b__law_bears, at_t, at_d, w, n, he]
theorem by_name_eq (t : Int) {d : D} (hd : Dd d) : m__law_by_name [.int t, d] = .ok (.bl true) := by
  have h1 := bears_eq t hd
  have h2 := alone_eq ["at", "deed"] [.int t, d]
  obtain ⟨⟨ps, rfl⟩, he⟩ := hd
  simp (decide := true) -implicitDefEqProofs [tbM_tail, startD, fVar, fVarS, isT, at_0, at_1, at_2, at_3, at_4, m__law_by_name, b__law_by_name, sTryR, asE, h1, h2]
theorem by_base_eq (t : Int) {d : D} (hd : Dd d) : m__law_by_base [.int t, d] = .ok (.bl true) := by
  have h1 := bears_eq t hd
  obtain ⟨⟨ps, rfl⟩, he⟩ := hd
  simp (decide := true) -implicitDefEqProofs [tbM_tail, startD, fVar, fVarS, isT, at_0, at_1, at_2, at_3, at_4, m__law_by_base, b__law_by_base, sTryR, asE, h1, gIsE, isL]
/-! ### the law -/
structure Rw (r : Int × D) : Prop where
  ok : Dd r.2
abbrev rw_ (r : Int × D) : D := .tup [.int r.1, r.2]
abbrev un_ (r : Int × D) : D := Un_ r.1 r.2
theorem cut60 (ns : List Int) (h : ns.length ≤ 63) : ∃ cs : List Int, cutD (ns.map D.int) none (some 60) = cs.map D.int ∧ cs.length ≤ 63 := by
  refine ⟨(ns.map fun i => i).drop (HT.sIx ns.length 0 none) |>.take (HT.sIx ns.length ns.length (some 60) - HT.sIx ns.length 0 none), ?_, ?_⟩
  · unfold cutD; simp [List.map_take, List.map_drop]
  · rw [List.length_take, List.length_drop, List.length_map]; omega
theorem made_eq (rs : List (Int × D)) (δ : DS) (hδ : ∃ a b, δ = [a, b]) : compL (gNm2 0 1) fYes (fMkE "Undone" "at" "deed" [(fVarS 0), (fVarS 1)]) (rs.map rw_) δ = .ok (rs.map un_) := by
  induction rs generalizing δ with
  | nil => rfl
  | cons r rs ih =>
    obtain ⟨a, b, rfl⟩ := hδ
    obtain ⟨t, d⟩ := r
    have := ih [.val (.int t), .val d] ⟨_, _, rfl⟩
    simp only [List.map_cons]
    simp (decide := true) -implicitDefEqProofs [tbM_tail, startD, fVar, fVarS, isT, at_0, at_1, at_2, at_3, at_4, compL, gNm2, fMkE, fYes, this]
theorem one_ok {rs : List (Int × D)} {i : Nat} (hi : i < rs.length) (hr : ∀ r ∈ rs, Dd r.2) {v0 s2 s4 : Sl} : (sSeq (sIf (fOrT (fNotT (fTru (fCall (m__law_bears) [(f2 gIx (fVar 3) (fVar 4)), (f2 gIx (f2 gIx (fVar 1) (fVar 4)) (fC (.int 0))), (f2 gIx (f2 gIx (fVar 1) (fVar 4)) (fC (.int 1)))]))) (fNotT (fTru (fCall (m__law_alone) [(f2 gIx (fVar 3) (fVar 4))])))) (sSeq (sRet (fC (.bl false))) sNext) sNext) (sSeq (sIf (fOrT (fNotT (fTru (fCall (m__law_by_name) [(f2 gIx (f2 gIx (fVar 1) (fVar 4)) (fC (.int 0))), (f2 gIx (f2 gIx (fVar 1) (fVar 4)) (fC (.int 1)))]))) (fNotT (fTru (fCall (m__law_by_base) [(f2 gIx (f2 gIx (fVar 1) (fVar 4)) (fC (.int 0))), (f2 gIx (f2 gIx (fVar 1) (fVar 4)) (fC (.int 1)))])))) (sSeq (sRet (fC (.bl false))) sNext) sNext) sNext)) [v0, .val (.lst (rs.map rw_)), s2, .val (.lst (rs.map un_)), .val (.int (i : Int))] = .ok (.nx [v0, .val (.lst (rs.map rw_)), s2, .val (.lst (rs.map un_)), .val (.int (i : Int))]) := by
  have e1 : atI (rs.map rw_) (i : Int) = some (rw_ rs[i]) := by rw [at_nat (by simpa using hi)]; simp
  have e2 : atI (rs.map un_) (i : Int) = some (un_ rs[i]) := by rw [at_nat (by simpa using hi)]; simp
  have hd := hr _ (List.getElem_mem hi)
  generalize rs[i] = r at *
  obtain ⟨t, d⟩ := r
  have b1 := bears_eq t hd
  have b2 := alone_eq ["at", "deed"] [.int t, d]
  have b3 := by_name_eq t hd
  have b4 := by_base_eq t hd
  have g1 : gIx (.lst (rs.map rw_)) (.int (i : Int)) = .ok (.tup [.int t, d]) := by simp only [gIx, e1]
  have g2 : gIx (.lst (rs.map un_)) (.int (i : Int)) = .ok (.exc "Undone" ["at", "deed"] [.int t, d]) := by simp only [gIx, e2]
  generalize rs.map rw_ = R at *
  generalize rs.map un_ = U at *
  simp (decide := true) -implicitDefEqProofs [tbM_tail, startD, fVar, fVarS, isT, at_0, at_1, at_2, at_3, at_4, g1, g2, b1, b2, b3, b4, -e_ixL]
theorem law_true (ns : List Int) (h : ns.length ≤ 63) : m_law [.frl (ns.map D.int)] = .ok (.bl true) := by
  obtain ⟨cs, hcut, hcl⟩ := cut60 ns h
  unfold m_law b_law
  refine run_rt ?_
  generalize hB : (sSeq (sIf (fOrT (fNotT (fTru (fCall (m__law_bears) [(f2 gIx (fVar 3) (fVar 4)), (f2 gIx (f2 gIx (fVar 1) (fVar 4)) (fC (.int 0))), (f2 gIx (f2 gIx (fVar 1) (fVar 4)) (fC (.int 1)))]))) (fNotT (fTru (fCall (m__law_alone) [(f2 gIx (fVar 3) (fVar 4))])))) (sSeq (sRet (fC (.bl false))) sNext) sNext) _ : Sm) = B1
  show sSeq (sFor _ _ _) _ [.val (.frl (ns.map D.int)), .own (.lst []), .un, .un, .un] = _
  rw [e_seq]
  have hf : ∀ body : Sm, sFor (f2 gCat (fSl (fVarS 0) none (some (fC (.int 60)))) (fLst [(fC (.int 7))])) (gNm 2) body [.val (.frl (ns.map D.int)), .own (.lst []), .un, .un, .un] = forL (gNm 2) body (cs.map D.int ++ [.int 7]) [.val (.frl (ns.map D.int)), .own (.lst []), .un, .un, .un] := fun body => by
    have hsz : cs.length + 1 ≤ sizeLine := Nat.le_of_lt (small1000 (by omega))
    simp (decide := true) -implicitDefEqProofs [tbM_tail, startD, fVar, fVarS, isT, at_0, at_1, at_2, at_3, at_4, sFor, fSl, fPart, hcut, gCat, hsz]
  rw [hf]
  refine For.useP (fun o : Ou Fl => o = .ok (.rt (.bl true))) (fun i δ => ∃ (rs : List (Int × D)) (s2 : Sl), δ = [.val (.frl (ns.map D.int)), .own (.lst (rs.map rw_)), s2, .un, .un] ∧ rs.length = i ∧ ∀ r ∈ rs, Dd r.2) ⟨[], _, rfl, rfl, by simp⟩ ?_ ?_
  · rintro i d hd hi δ ⟨rs, s2, rfl, hl, hr⟩
    obtain ⟨c, rfl⟩ : ∃ c : Int, d = .int c := by
      have := List.mem_of_getElem? hd
      rw [List.mem_append, List.mem_map] at this
      rcases this with ⟨a, _, rfl⟩ | this
      · exact ⟨a, rfl⟩
      · exact ⟨7, by simpa using this⟩
    obtain ⟨dd, h1, h2⟩ := deed_eq c
    rw [List.length_append, List.length_map] at hi
    have hsz : (rs.map rw_).length < sizeLine := by rw [List.length_map]; exact small1000 (by simp at hi; omega)
    refine Goes.eq (δ2 := [.val (.frl (ns.map D.int)), .own (.lst ((rs ++ [(c / 7 % 1073741824, dd)]).map rw_)), .val (.int c), .un, .un]) ?_ ⟨_, _, rfl, by simp [hl], ?_⟩
    · rw [List.map_append]
      generalize rs.map rw_ = R at *
      simp (decide := true) -implicitDefEqProofs [tbM_tail, startD, fVar, fVarS, isT, at_0, at_1, at_2, at_3, at_4, h1, sApp, hsz]
    · intro r hr'
      rcases List.mem_append.mp hr' with w | w
      · exact hr r w
      · rw [List.mem_singleton.mp w]; exact h2
  · rintro δ ⟨rs, s2, rfl, hl, hr⟩
    rw [List.length_append, List.length_map] at hl
    have hrl : rs.length ≤ 64 := by simp at hl; omega
    have hro : rOk (rs.length : Int) = true := by simp [rOk]; omega
    have hsz : rs.length ≤ sizeLine := Nat.le_of_lt (small1000 (by omega))
    have hm := made_eq rs [.un, .un] ⟨_, _, rfl⟩
    have hs : sSet 3 (fComp (fItems (fVarS 1)) (gNm2 0 1) fYes (fMkE "Undone" "at" "deed" [(fVarS 0), (fVarS 1)]) 2 []) (thaw 1 [.val (.frl (ns.map D.int)), .own (.lst (rs.map rw_)), s2, .un, .un]) = .ok (.nx [.val (.frl (ns.map D.int)), .val (.lst (rs.map rw_)), s2, .val (.lst (rs.map un_)), .un]) := by
      simp (decide := true) -implicitDefEqProofs [tbM_tail, startD, fVar, fVarS, isT, at_0, at_1, at_2, at_3, at_4, thaw, fComp, fItems, hm, hsz, dsIn, slIn]
    show sSeq _ _ [.val (.frl (ns.map D.int)), .own (.lst (rs.map rw_)), s2, .un, .un] = _
    rw [e_seq, hs, bind_ok]
    dsimp only
    rw [e_seq]
    refine Rng.useP (fun o : Ou Fl => o = .ok (.rt (.bl true))) (j := (rs.length : Int)) ?_ hro (fun i δ => ∃ s4, δ = [.val (.frl (ns.map D.int)), .val (.lst (rs.map rw_)), s2, .val (.lst (rs.map un_)), s4]) ⟨_, rfl⟩ ?_ ?_
    · simp (decide := true) -implicitDefEqProofs [tbM_tail, startD, fVar, fVarS, isT, at_0, at_1, at_2, at_3, at_4, hsz]
    · rintro i hi δ ⟨s4, rfl⟩
      rw [← hB]
      exact Goes.eq (one_ok (by omega) hr (s4 := .un)) ⟨_, rfl⟩
    · rintro δ ⟨s4, rfl⟩
      rfl
end Pr

open PySem PySem.W PyProof.Rows
set_option maxRecDepth 100000 in
set_option maxHeartbeats 0 in
theorem PySem.Challenge.cw_pastdesk_k02_undone_told_holds : PySem.Challenge.rw_pastdesk_k02_undone_told.Holds := by
  w_on; o_law; k_head; (case hw => w_witness2)
  k_fill
  refine Pr.walk (l := PySem.Challenge.rw_pastdesk_k02_undone_told) rfl rfl (fun w h Y => PySem.W.kIn_of Y) Pr.law_true ?F
  case F =>
    intro w mg fa h X G hm
    refine' Pr.all_mk h (fun base => ?R) hm
    case R =>
      constructor
      all_goals first | (refine' DL.sr0_mk X G ?a ?l ?c ?k; (case a => k_is); (case l => k_is); (case c => k_is); (case k => k_is)) | (refine' DL.exc_mk X G ?a; (case a => k_is)) | (refine PySem.W.mg_none_of X G ?_; k_is) | (refine' DL.ExK.mk ?_ ?_ ?_ ?_ ?_ ?_ ?_ <;> k_is) | (refine' DL.inE_mk ?l ?m ?s ?d ?h ?t ?o ?i ?lf ?c ?kf ?kp ?sa ?a1 ?a2 ?g ?r ?fc; (case l => k_is); (case m => rfl); (case s => rfl); (case d => rfl); (case h => rfl); (case t => kernel_rfl); (case o => kernel_rfl); (case i => k_is); (case lf => k_is); (case c => k_is); (case kf => k_is); (case kp => k_is); (case sa => k_is); (case a1 => k_is); (case a2 => k_is); (case g => k_is); (case r => k_is); (case fc => k_is)) | kts_exm | kit_is
