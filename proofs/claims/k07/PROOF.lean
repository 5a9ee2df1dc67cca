import PyProof.Rows.All
import Wide.All
import OpenK.AllK
import Wide.FinOn
import Lean
import PyProof.EqAt
import PyProof.EqKinds
import PyProof.TupleCall
import PySem.Challenge.RW_indexwise_k07_whole_for_all_numbers
set_option Elab.async false
set_option linter.all false
set_option maxRecDepth 100000
/-! THE HAND LAYER, for ints, bools, texts, own classes, LISTS and tuples (index, slices, in, append, pop ..), calls, loops. Paste it whole ahead of your own text; what your proof does not reach may be deleted. -/
namespace L2
open PySem PySem.Spec PyProof.Rows

/-- a key: an int or a str -/
abbrev Key := Sum Int Str
def keyIs : Key → Value → Bool
  | .inl k, v => Value.isInt k v
  | .inr x, v => Value.isStrOf x v
def keyH (w : World) : Key → Int
  | .inl k => hashInt k
  | .inr x => hashStr w x
theorem keyIs_shape : ∀ {k : Key} {v : Value}, keyIs k v = true → (∃ i t, k = Sum.inl i ∧ v = Value.int i t) ∨ (∃ x t, k = Sum.inr x ∧ v = Value.str x t)
  | .inl i, v, h => by
    obtain ⟨t, e⟩ := Value.isInt_shape (k := i) (v := v) h
    exact .inl ⟨i, t, rfl, e⟩
  | .inr x, v, h => by
    obtain ⟨t, e⟩ := Value.isStrOf_shape (x := x) (v := v) h
    exact .inr ⟨x, t, rfl, e⟩
theorem keyIs_int (i : Int) (t : Tok) : keyIs (.inl i) (.int i t) = true := by simp [keyIs, Value.isInt]
theorem keyIs_str (x : Str) (t : Tok) : keyIs (.inr x) (.str x t) = true := by simp [keyIs, Value.isStrOf]
theorem key_ll (a b : Int) : decide ((Sum.inl a : Key) = Sum.inl b) = (a == b) := by
  by_cases e : a = b
  · subst e; simp
  · have h : ¬ (Sum.inl a : Key) = Sum.inl b := fun q => e (Sum.inl.inj q)
    rw [decide_eq_false h]
    exact (beq_eq_false_iff_ne.mpr e).symm
theorem key_rr (a b : Str) : decide ((Sum.inr a : Key) = Sum.inr b) = decide (a = b) := by
  by_cases e : a = b
  · subst e; simp
  · have h : ¬ (Sum.inr a : Key) = Sum.inr b := fun q => e (Sum.inr.inj q)
    rw [decide_eq_false h, decide_eq_false e]
theorem key_lr (a : Int) (b : Str) : decide ((Sum.inl a : Key) = Sum.inr b) = false := decide_eq_false (fun q => nomatch q)
theorem key_rl (a : Str) (b : Int) : decide ((Sum.inr a : Key) = Sum.inl b) = false := decide_eq_false (fun q => nomatch q)

def mixKind (prog : Program) (w : World) : PySem.KeyKind prog w Key where
  is := keyIs
  hash := keyH w
  inj := fun v a b ha hb => by
    rcases keyIs_shape ha with ⟨i, t, rfl, rfl⟩ | ⟨x, t, rfl, rfl⟩
    · rcases keyIs_shape hb with ⟨j, u, rfl, e⟩ | ⟨y, u, rfl, e⟩
      · injection e with e1 _; rw [e1]
      · exact nomatch e
    · rcases keyIs_shape hb with ⟨j, u, rfl, e⟩ | ⟨y, u, rfl, e⟩
      · exact nomatch e
      · injection e with e1 _; rw [e1]
  byValue := fun k v h => by
    rcases keyIs_shape h with ⟨i, t, rfl, rfl⟩ | ⟨x, t, rfl, rfl⟩ <;> rfl
  pyHash := fun hv h => by
    rcases keyIs_shape hv with ⟨i, t, rfl, rfl⟩ | ⟨x, t, rfl, rfl⟩
    · exact wpAny_pyHash_int h
    · exact wpAny_pyHash_str h
  eqBool := fun hu hv h => by
    rcases keyIs_shape hu with ⟨i, t, rfl, rfl⟩ | ⟨x, t, rfl, rfl⟩
    · rcases keyIs_shape hv with ⟨j, u, rfl, rfl⟩ | ⟨y, u, rfl, rfl⟩
      · rw [key_ll] at h; exact wpAny_eqBool_int h
      · rw [key_lr] at h; exact SeqAt.EqAt.int_str i t y u _ _ _ _ h
    · rcases keyIs_shape hv with ⟨j, u, rfl, rfl⟩ | ⟨y, u, rfl, rfl⟩
      · rw [key_rl] at h; exact SeqAt.EqAt.str_int x t j u _ _ _ _ h
      · rw [key_rr] at h; exact wpAny_eqBool_str h
  «strs» := fun k x t v h => by
    rcases keyIs_shape h with ⟨i, u, rfl, e⟩ | ⟨y, u, rfl, e⟩
    · exact nomatch e
    · injection e with e1 _
      subst e1
      cases v <;> rfl

theorem mixKind_is (prog : Program) (w : World) (k : Key) (v : Value) : (mixKind prog w).is k v = keyIs k v := rfl
theorem mixKind_int (prog : Program) (w : World) (i : Int) (t : Tok) : (mixKind prog w).is (.inl i) (.int i t) = true := keyIs_int i t
theorem mixKind_str (prog : Program) (w : World) (x : Str) (t : Tok) : (mixKind prog w).is (.inr x) (.str x t) = true := keyIs_str x t
end L2

namespace L2
open PySem PySem.Spec PyProof.Rows

/-- a value, without the heap -/
inductive V where
  | non | bl (b : Bool) | int (i : Int) | str (x : Str) | byt (b : Array UInt8) | flt (b : UInt64) | ref (a : Addr) | ty (n : String)
  deriving DecidableEq

def RelV : V → Value → Prop
  | .non, u => u = Value.none
  | .bl b, u => u = Value.bool b
  | .int i, u => ∃ t, u = Value.int i t
  | .str x, u => ∃ t, u = Value.str x t
  | .byt b, u => ∃ t, u = Value.bytes b t
  | .flt b, u => ∃ t, u = Value.float b t
  | .ref a, u => u = Value.ref a
  | .ty n, u => u = Value.type n

abbrev Vals : List V → List Value → Prop := Paired RelV
theorem Vals.length {xs : List V} {us : List Value} (r : Vals xs us) : xs.length = us.length := Paired.length r
theorem Vals.get : ∀ {xs : List V} {us : List Value} {i : Nat} {x : V}, Vals xs us → xs[i]? = some x → ∃ u, us[i]? = some u ∧ RelV x u
  | _, _, _, _, .nil, e => by simp at e
  | _, _, 0, _, .cons r _, e => by simp at e; subst e; exact ⟨_, rfl, r⟩
  | _, _, i + 1, x, .cons _ t, e => by
    obtain ⟨u, h1, h2⟩ := Vals.get (i := i) (x := x) t (by simpa using e)
    exact ⟨u, by simpa using h1, h2⟩
theorem Vals.set {x : V} {u : Value} (r : RelV x u) : ∀ {xs : List V} {us : List Value} (i : Nat), Vals xs us → Vals (xs.set i x) (us.set i u)
  | _, _, _, .nil => .nil
  | _, _, 0, .cons _ t => .cons r t
  | _, _, i + 1, .cons q t => .cons q (Vals.set r i t)
theorem Vals.append : ∀ {xs ys : List V} {us ws : List Value}, Vals xs us → Vals ys ws → Vals (xs ++ ys) (us ++ ws)
  | _, _, _, _, .nil, s => s
  | _, _, _, _, .cons r t, s => .cons r (Vals.append t s)
theorem Vals.take : ∀ {xs : List V} {us : List Value} (n : Nat), Vals xs us → Vals (xs.take n) (us.take n)
  | _, _, 0, _ => .nil
  | _, _, _ + 1, .nil => .nil
  | _, _, n + 1, .cons r t => .cons r (Vals.take n t)
theorem Vals.drop : ∀ {xs : List V} {us : List Value} (n : Nat), Vals xs us → Vals (xs.drop n) (us.drop n)
  | _, _, 0, r => r
  | _, _, _ + 1, .nil => .nil
  | _, _, n + 1, .cons _ t => Vals.drop n t
theorem Vals.none_of : ∀ {xs : List V} {us : List Value} {i : Nat}, Vals xs us → xs[i]? = none → us[i]? = none := fun {xs us i} r e => by
  have h1 := r.length
  have h2 : xs.length ≤ i := List.getElem?_eq_none_iff.mp e
  exact List.getElem?_eq_none_iff.mpr (by omega)

def RelO : Option V → Option Value → Prop
  | some v, some u => RelV v u
  | none, none => True
  | _, _ => False
def KV {κ : Type} : List (κ × V) → List (κ × Value) → Prop := Paired fun (p : κ × V) (q : κ × Value) => p.1 = q.1 ∧ RelV p.2 q.2

/-- a key of a dict (00_mix): an int or a text -/
def kV : Key → V
  | .inl i => .int i
  | .inr x => .str x

/-- what stands at a tracked address -/
inductive HO where
  /-- a list -/
  | lst (xs : List V)
  /-- a tuple (never changes) -/
  | tup (xs : List V)
  /-- a dict whose keys are ints and texts; one whose keys are tuples of ints and texts (the empty one is both) -/
  | dK (kvs : List (Key × V)) | dT (kvs : List (List Key × V))
  /-- a set of ints: its members, its size -/
  | set (S : Int → Bool) (n : Nat)
  /-- an instance of the class at C, its dict at dx, its attributes -/
  | ins (C dx : Addr) (fs : List (Str × V))
  /-- the dict of the instance at x -/
  | own (x : Addr)
  /-- the dict of an exception -/
  | xd (fs : List (Str × V))
  /-- a bound method, f of x -/
  | met (f x : Addr)
  /-- a range object lo, lo + 1, .. below hi -/
  | rng (lo hi : Int)
  /-- a thing that is known to the object (the script; a dict while a loop walks it): read, never written while it is so -/
  | frz (o : Obj) (u : HO)
  /-- a code object's table -/
  | tbl (ps : Array Value)
  /-- any other thing, by what is true of its one object (a def of one's own: SetO a S n := HO.ext fun h => ..) -/
  | ext (φ : Heap → Prop)

abbrev Hp := Addr → Option HO
def upd (H : Hp) (a : Addr) (o : HO) : Hp := fun b => if b = a then some o else H b
theorem upd_same {H : Hp} {a : Addr} {o : HO} : upd H a o a = some o := by unfold upd; rw [if_pos rfl]
theorem upd_ne {H : Hp} {a b : Addr} {o : HO} (h : b ≠ a) : upd H a o b = H b := by unfold upd; rw [if_neg h]
theorem upd_upd {H : Hp} {a : Addr} {o u : HO} : upd (upd H a o) a u = upd H a u := by
  funext b; unfold upd; split <;> rfl
/-- two objects of different content stand apart -/
theorem ne_of {H : Hp} {a b : Addr} {o u : HO} (h : H a = some o) (h' : H b = some u) (d : o ≠ u) : a ≠ b := by
  intro e; subst e; rw [h] at h'; exact d (Option.some.inj h')
theorem ne_of_none {H : Hp} {a b : Addr} {o : HO} (h : H a = some o) (h' : H b = none) : a ≠ b := by
  intro e; subst e; rw [h] at h'; cases h'

/-- no dict of its own -/
def NoD (h : Heap) (a : Addr) : Prop := ∃ o, h.get? a = some o ∧ o.dict = none
theorem NoD.new (h : Heap) {o : Obj} (e : o.dict = none) (f : o.isFreed = false := by rfl) : NoD (h.push o) h.objs.size := ⟨_, Heap.get?_push_size _ f, e⟩
section
variable (P : Program) (w : World)
def ObjOk (H : Hp) (h : Heap) (a : Addr) : HO → Prop
  | .lst xs => xs.length ≤ sizeLine ∧ ∃ (its : List Value) (n : Nat), Vals xs its ∧ h.get? a = some { cls := .type "list", data := .seq its.toArray n }
  | .tup xs => xs.length ≤ sizeLine ∧ ∃ its : List Value, Vals xs its ∧ IsTup h a its.toArray ∧ NoD h a
  | .dK kvs => kvs.length ≤ sizeLine ∧ (a == sysModules) = false ∧ ∃ vs, KV kvs vs ∧ h.DictOf (mixKind P w) a vs
  | .dT kvs => kvs.length ≤ sizeLine ∧ (a == sysModules) = false ∧ ∃ xs : List (List Key × Addr × Value),
      Paired (fun (p : List Key × V) (q : List Key × Addr × Value) => p.1 = q.1 ∧ H q.2.1 = some (.tup (p.1.map kV)) ∧ RelV p.2 q.2.2) kvs xs ∧
      ∃ o es ep, h.get? a = some o ∧ o.ExactDict ∧ o.data = .dict es ep ∧ es.toList = xs.map (entryOfKey (tupleKind (mixKind P w))) ∧ (xs.map (·.1)).Nodup
  | .set S n => h.SetOf (intKind P w) a S n
  | .ins C dx fs => H dx = some (.own a) ∧ fs.length ≤ 1000 ∧ dx ≠ a ∧ h.get? a = some (PySem.W.instObj C dx) ∧
      ∃ mA, h.Ns1 dx mA ∧ (∀ f, RelO (fs.lookup f) (mA f)) ∧ PySem.Within mA (fs.map (·.1))
  | .own _ => ∃ o, h.get? a = some o
  | .xd fs => ∃ mA, h.Ns1 a mA ∧ ∀ f, RelO (fs.lookup f) (mA f)
  | .rng lo hi => ∃ t u v, h.get? a = some { cls := .type "range", data := .fields #[.int lo t, .int hi u, .int 1 v] }
  | .frz o u => h.get? a = some o ∧ ObjOk H h a u
  | .tbl ps => h.get? a = some { cls := .none, data := .fields ps }
  | .met f x => h.get? a = some (PySem.W.methodObj (.ref f) (.ref x))
  | .ext φ => φ h ∧ (∃ o, h.get? a = some o) ∧ ∀ h1 h2 : Heap, φ h1 → (∀ o, h1.get? a = some o → h2.get? a = some o) → φ h2
/-- the abstract heap is held -/
def HOk (H : Hp) (h : Heap) : Prop := ∀ a o, H a = some o → ObjOk P w H h a o
end

section
variable {P : Program} {w : World} {H H' : Hp} {h h' : Heap} {a : Addr} {o : HO}
theorem ObjOk.lt (x : ObjOk P w H h a o) : a < h.objs.size := by
  cases o with
  | lst xs => obtain ⟨_, _, _, _, e⟩ := x; exact Heap.lt_size e
  | tup xs => obtain ⟨_, _, _, p⟩ := x; exact p.1.lt
  | dK kvs => obtain ⟨_, _, _, _, o, _, _, e, _⟩ := x; exact Heap.lt_size e
  | dT kvs => obtain ⟨_, _, _, _, o, _, _, e, _⟩ := x; exact Heap.lt_size e
  | set S n => obtain ⟨o, _, _, _, e, _⟩ := x; exact Heap.lt_size e
  | ins C dx fs => obtain ⟨_, _, _, e, _⟩ := x; exact Heap.lt_size e
  | own y => obtain ⟨_, e⟩ := x; exact Heap.lt_size e
  | xd fs => obtain ⟨_, ⟨_, _, _, e, _⟩, _⟩ := x; exact Heap.lt_size e
  | rng lo hi => obtain ⟨_, _, _, e⟩ := x; exact Heap.lt_size e
  | frz ob u => obtain ⟨e, _⟩ := x; exact Heap.lt_size e
  | tbl ps => exact Heap.lt_size (show h.get? a = some _ from x)
  | met f y => exact Heap.lt_size (show h.get? a = some _ from x)
  | ext φ => obtain ⟨_, ⟨_, e⟩, _⟩ := x; exact Heap.lt_size e
theorem Paired.mapP {α β : Type} {F G : α → β → Prop} : ∀ {l₁ : List α} {l₂ : List β}, Paired F l₁ l₂ → (∀ a b, F a b → G a b) → Paired G l₁ l₂
  | _, _, .nil, _ => .nil
  | _, _, .cons r t, f => .cons (f _ _ r) (Paired.mapP t f)
theorem Paired.imp' {α β : Type} {F G : α → β → Prop} (f : ∀ a b, F a b → G a b) {l₁ : List α} {l₂ : List β} (r : Paired F l₁ l₂) : Paired G l₁ l₂ := Paired.mapP r f
/-- what an object's description leans on: its own object, its own dict, the tuples -/
theorem ObjOk.stay (x : ObjOk P w H h a o) (k : ∀ b u, (b = a ∨ H b = some (.own a)) → h.get? b = some u → h'.get? b = some u)
    (ho : ∀ b, H b = some (.own a) → H' b = some (.own a)) (ht : ∀ b xs, H b = some (.tup xs) → H' b = some (.tup xs)) : ObjOk P w H' h' a o := by
  induction o with
  | lst xs => obtain ⟨z, its, n, r, e⟩ := x; exact ⟨z, its, n, r, k _ _ (.inl rfl) e⟩
  | tup xs => obtain ⟨z, its, r, ⟨ob, e, c⟩, od, e2, c2⟩ := x; exact ⟨z, its, r, ⟨ob, k _ _ (.inl rfl) e, c⟩, od, k _ _ (.inl rfl) e2, c2⟩
  | dK kvs => obtain ⟨z, y, vs, r, ob, es, ep, e, c⟩ := x; exact ⟨z, y, vs, r, ob, es, ep, k _ _ (.inl rfl) e, c⟩
  | dT kvs =>
    obtain ⟨z, y, xs, r, ob, es, ep, e, c⟩ := x
    exact ⟨z, y, xs, Paired.mapP r fun p q z => ⟨z.1, ht _ _ z.2.1, z.2.2⟩, ob, es, ep, k _ _ (.inl rfl) e, c⟩
  | set S n => obtain ⟨ob, es, ep, t, e, c⟩ := x; exact ⟨ob, es, ep, t, k _ _ (.inl rfl) e, c⟩
  | ins C dx fs =>
    obtain ⟨d, z, ne, e, mA, ⟨od, es, ep, e2, c⟩, r⟩ := x
    exact ⟨ho _ d, z, ne, k _ _ (.inl rfl) e, mA, ⟨od, es, ep, k _ _ (.inr d) e2, c⟩, r⟩
  | own y => obtain ⟨ob, e⟩ := x; exact ⟨ob, k _ _ (.inl rfl) e⟩
  | xd fs => obtain ⟨mA, ⟨od, es, ep, e, c⟩, r⟩ := x; exact ⟨mA, ⟨od, es, ep, k _ _ (.inl rfl) e, c⟩, r⟩
  | rng lo hi => obtain ⟨t, u, v, e⟩ := x; exact ⟨t, u, v, k _ _ (.inl rfl) e⟩
  | frz ob u ih => obtain ⟨e, q⟩ := x; exact ⟨k _ _ (.inl rfl) e, ih q⟩
  | tbl ps =>
    have e : h.get? a = some { cls := .none, data := .fields ps } := x
    show h'.get? a = some { cls := .none, data := .fields ps }
    exact k a _ (.inl rfl) e
  | met f y =>
    have e : h.get? a = some (PySem.W.methodObj (.ref f) (.ref y)) := x
    show h'.get? a = some (PySem.W.methodObj (.ref f) (.ref y))
    exact k a _ (.inl rfl) e
  | ext φ => obtain ⟨p, ⟨o, e⟩, st⟩ := x; exact ⟨st _ _ p fun o q => k _ _ (.inl rfl) q, ⟨o, k _ _ (.inl rfl) e⟩, st⟩
theorem HOk.lt (x : HOk P w H h) (e : H a = some o) : a < h.objs.size := (x a o e).lt
theorem HOk.fresh (x : HOk P w H h) (e : h.objs.size ≤ a) : H a = none := by
  cases q : H a with
  | none => rfl
  | some u => exact absurd (Nat.lt_of_lt_of_le (x.lt q) e) (Nat.lt_irrefl _)
/-- every object of the heap is kept -/
theorem HOk.kept (x : HOk P w H h) (k : ∀ b u, h.get? b = some u → h'.get? b = some u) : HOk P w H h' := fun a o e =>
  (x a o e).stay (fun b u _ q => k b u q) (fun _ q => q) fun _ _ q => q
/-- a new object is laid and tracked -/
theorem HOk.laid (x : HOk P w H h) (k : ∀ b u, h.get? b = some u → h'.get? b = some u) (hp : h.objs.size ≤ a) (new : ObjOk P w (upd H a o) h' a o) : HOk P w (upd H a o) h' := fun b u e => by
  have hn := x.fresh hp
  by_cases hb : b = a
  · subst hb; rw [upd_same] at e; cases e; exact new
  · rw [upd_ne hb] at e
    exact (x b u e).stay (fun c v _ q => k c v q) (fun c q => by rw [upd_ne (ne_of_none q hn)]; exact q) fun c xs q => by rw [upd_ne (ne_of_none q hn)]; exact q
end

/-- what may be read as u: it is u, or a known u -/
def Rd (H : Hp) (a : Addr) (u : HO) : Prop := H a = some u ∨ ∃ o, H a = some (.frz o u)
theorem Rd.of {H : Hp} {a : Addr} {u : HO} (h : H a = some u) : Rd H a u := .inl h
theorem Rd.ok {P : Program} {w : World} {H : Hp} {h : Heap} {a : Addr} {u : HO} (r : Rd H a u) (x : HOk P w H h) : ObjOk P w H h a u := by
  rcases r with r | ⟨o, r⟩
  · exact x a u r
  · obtain ⟨_, q⟩ := x a _ r
    exact q
/-- what may be written -/
def Mut : Option HO → Prop
  | some (.lst _) => True
  | some (.dK _) => True
  | some (.dT _) => True
  | some (.set _ _) => True
  | some (.ins _ _ _) => True
  | some (.ext _) => True
  | _ => False
section
variable {P : Program} {w : World} {H : Hp} {h h' : Heap} {x e : Addr} {o' : HO}
/-- the object at e is changed: x itself, or the dict of the instance x -/
theorem HOk.write (ok : HOk P w H h) (mu : Mut (H x)) (he : e = x ∨ H e = some (.own x)) (k : ∀ b u, b ≠ e → h.get? b = some u → h'.get? b = some u) (heo : ∃ u, h'.get? e = some u)
    (new : ObjOk P w (upd H x o') h' x o') : HOk P w (upd H x o') h' := fun b u q => by
  have nown : ∀ c y, H c = some (.own y) → c ≠ x := fun c y r z => by subst z; rw [r] at mu; exact mu
  have ntup : ∀ c xs, H c = some (.tup xs) → c ≠ x := fun c xs r z => by subst z; rw [r] at mu; exact mu
  by_cases hb : b = x
  · subst hb; rw [upd_same] at q; cases q; exact new
  · rw [upd_ne hb] at q
    by_cases hbe : b = e
    · have q' : H b = some (.own x) := by
        rcases he with z | z
        · exact absurd (hbe.trans z) hb
        · rw [hbe]; exact z
      rw [q] at q'; cases q'
      obtain ⟨v, hv⟩ := heo
      exact ⟨v, by rw [hbe]; exact hv⟩
    · refine (ok b u q).stay (fun c v hc r => k c v ?_ r) (fun c r => by rw [upd_ne (nown c b r)]; exact r) fun c xs r => by rw [upd_ne (ntup c xs r)]; exact r
      rcases hc with rfl | hc
      · exact hbe
      · rintro rfl
        rcases he with z | z
        · exact nown c b hc z
        · rw [hc] at z; cases z; exact hb rfl
end

/-! ### kept unless tracked; of the frames at fs (the callers') the slots may change (an exception that passes writes there); of the records at ex (iterators) nothing is said -/
structure Un (fs ex : List Addr) (H H' : Hp) (h h' : Heap) : Prop where
  keep : ∀ b o, h.get? b = some o → H b = none → b ∉ fs → b ∉ ex → h'.get? b = some o
  slot : ∀ b o, h.get? b = some o → H b = none → b ∈ fs → b ∉ ex → ∃ sl, h'.get? b = some { o with slots := sl }
  free : ∀ b o, h.get? b = some o → H b = none → b ∉ ex → H' b = none
  there : ∀ b o, h.get? b = some o → b ∉ ex → ∃ o', h'.get? b = some o'
  tups : ∀ b xs, H b = some (.tup xs) → H' b = some (.tup xs)
  frzs : ∀ b o u, H b = some (.frz o u) → H' b = some (.frz o u)
  tbls : ∀ b ps, H b = some (.tbl ps) → ∃ more, H' b = some (.tbl (ps ++ more))
section
variable {fs fs' ex ex' : List Addr} {H H1 H2 : Hp} {h h1 h2 h' : Heap} {a x e : Addr} {o : HO}
theorem Un.any (u : Un fs ex H H1 h h1) {b : Addr} {ob : Obj} (q : h.get? b = some ob) (n : H b = none) (hx : b ∉ ex) : ∃ sl, h1.get? b = some { ob with slots := sl } := by
  by_cases hb : b ∈ fs
  · exact u.slot b ob q n hb hx
  · exact ⟨ob.slots, u.keep b ob q n hb hx⟩
theorem Un.trans (a : Un fs ex H H1 h h1) (b : Un fs ex H1 H2 h1 h2) : Un fs ex H H2 h h2 where
  keep := fun c ob q n hc hx => b.keep c ob (a.keep c ob q n hc hx) (a.free c ob q n hx) hc hx
  slot := fun c ob q n hc hx => by
    obtain ⟨sl, e1⟩ := a.slot c ob q n hc hx
    obtain ⟨sl', e2⟩ := b.slot c _ e1 (a.free c ob q n hx) hc hx
    exact ⟨sl', e2⟩
  free := fun c ob q n hx => by
    obtain ⟨o', e1⟩ := a.there c ob q hx
    exact b.free c o' e1 (a.free c ob q n hx) hx
  there := fun c ob q hx => by
    obtain ⟨o', e1⟩ := a.there c ob q hx
    exact b.there c o' e1 hx
  tups := fun c xs q => b.tups c xs (a.tups c xs q)
  frzs := fun c ob xs q => b.frzs c ob xs (a.frzs c ob xs q)
  tbls := fun c ps q => by
    obtain ⟨m1, e1⟩ := a.tbls c ps q
    obtain ⟨m2, e2⟩ := b.tbls c _ e1
    exact ⟨m1 ++ m2, by rw [e2, Array.append_assoc]⟩
theorem Un.kept (k : ∀ b u, h.get? b = some u → h'.get? b = some u) : Un fs ex H H h h' :=
  ⟨fun b ob q _ _ _ => k b ob q, fun b ob q _ _ _ => ⟨ob.slots, k b ob q⟩, fun _ _ _ n _ => n, fun b ob q _ => ⟨ob, k b ob q⟩, fun _ _ q => q, fun _ _ _ q => q, fun _ ps q => ⟨#[], by rw [q]; simp⟩⟩
theorem Un.refl : Un fs ex H H h h := Un.kept fun _ _ q => q
theorem Un.laid (k : ∀ b u, h.get? b = some u → h'.get? b = some u) (hp : h.objs.size ≤ a) (hn : H a = none) : Un fs ex H (upd H a o) h h' where
  keep := fun b u q _ _ _ => k b u q
  slot := fun b u q _ _ _ => ⟨u.slots, k b u q⟩
  free := fun b u q n _ => by rw [upd_ne (Nat.ne_of_lt (Nat.lt_of_lt_of_le (Heap.lt_size q) hp))]; exact n
  there := fun b u q _ => ⟨u, k b u q⟩
  tups := fun b xs q => by rw [upd_ne (ne_of_none q hn)]; exact q
  frzs := fun b u xs q => by rw [upd_ne (ne_of_none q hn)]; exact q
  tbls := fun b ps q => ⟨#[], by rw [upd_ne (ne_of_none q hn), q]; simp⟩
theorem Un.write (mu : Mut (H x)) (he : e = x ∨ H e = some (.own x)) (k : ∀ b u, b ≠ e → h.get? b = some u → h'.get? b = some u) (heo : ∃ u, h'.get? e = some u) : Un fs ex H (upd H x o) h h' := by
  have hx : ∀ b, H b = none → b ≠ x := fun b n z => by subst z; rw [n] at mu; exact mu
  have hb : ∀ b, H b = none → b ≠ e := fun b n z => by
    subst z
    rcases he with r | r
    · exact hx b n r
    · rw [n] at r; cases r
  have hm : ∀ b u, H b = some u → ¬ Mut (some u) → b ≠ x := fun b u q nm z => by subst z; rw [q] at mu; exact nm mu
  refine ⟨fun b u q n _ _ => k b u (hb b n) q, fun b u q n _ _ => ⟨u.slots, k b u (hb b n) q⟩, fun b u q n _ => by rw [upd_ne (hx b n)]; exact n, fun b u q _ => ?_,
    fun b xs q => by rw [upd_ne (hm b _ q fun z => z)]; exact q, fun b u xs q => by rw [upd_ne (hm b _ q fun z => z)]; exact q, fun b ps q => ⟨#[], by rw [upd_ne (hm b _ q fun z => z), q]; simp⟩⟩
  by_cases hbe : b = e
  · subst hbe; exact heo
  · exact ⟨u, k b u hbe q⟩
theorem Un.mono (u : Un fs ex H H1 h h1) (hs : ∀ b ∈ fs, b ∈ fs') (hx : ∀ b ∈ ex, b ∈ ex') : Un fs' ex' H H1 h h1 :=
  ⟨fun b ob q n hb he => u.keep b ob q n (fun z => hb (hs b z)) fun z => he (hx b z), fun _ _ q n _ he => u.any q n fun z => he (hx _ z), fun b ob q n he => u.free b ob q n fun z => he (hx b z), fun b ob q he => u.there b ob q fun z => he (hx b z), u.tups, u.frzs, u.tbls⟩
end

/-! ### the heap without what is tracked -/
def trk (h : Heap) (H : Hp) : List Addr := (List.range h.objs.size).filter fun a => (H a).isSome
def hidT (h : Heap) (H : Hp) : Heap := PySem.W.hideAll h (trk h H)
theorem hidT_size (h : Heap) (H : Hp) : (hidT h H).objs.size = h.objs.size := PySem.W.hideAll_size _ _
theorem hidT_get {h : Heap} {H : Hp} {b : Addr} {o : Obj} (e : h.get? b = some o) (n : H b = none) : (hidT h H).get? b = some o :=
  PySem.W.hideAll_get _ e fun hm => by
    have q : (H b).isSome = true := (List.mem_filter.mp hm).2
    rw [n] at q; simp at q
theorem of_hidT {h : Heap} {H : Hp} {b : Addr} {o : Obj} (e : (hidT h H).get? b = some o) : h.get? b = some o ∧ H b = none := by
  have e' : h.get? b = some o := PySem.W.of_hideAll (trk h H) e
  refine ⟨e', ?_⟩
  cases q : H b with
  | none => rfl
  | some x =>
    have hm : b ∈ trk h H := List.mem_filter.mpr ⟨List.mem_range.mpr (Heap.lt_size e'), by simp [q]⟩
    have z : (hidT h H).get? b = none := PySem.W.hideAll_none (trk h H) hm
    rw [z] at e; cases e

/-! ### OpenK's ledger, filled with every new object but one -/
def allNews (g h : Heap) (L : Addr) : List (Addr × Obj) := (List.range h.objs.size).filterMap fun a => if a = L ∨ (g.get? a).isSome = true then none else (h.get? a).map fun o => (a, o)
theorem mem_allNews {g h : Heap} {L a : Addr} {o : Obj} (h1 : a ≠ L) (h2 : g.get? a = none) (h3 : h.get? a = some o) : (a, o) ∈ allNews g h L :=
  List.mem_filterMap.mpr ⟨a, List.mem_range.mpr (Heap.lt_size h3), by simp [h1, h2, h3]⟩
theorem of_mem_allNews {g h : Heap} {L : Addr} {p : Addr × Obj} (hp : p ∈ allNews g h L) : p.1 ≠ L ∧ g.get? p.1 = none ∧ h.get? p.1 = some p.2 := by
  obtain ⟨b, _, e⟩ := List.mem_filterMap.mp hp
  split at e
  · cases e
  · rename_i hn
    cases q : h.get? b with
    | none => rw [q] at e; simp at e
    | some u =>
      rw [q] at e
      simp only [Option.map_some, Option.some.injEq] at e
      subst e
      refine ⟨fun z => hn (.inl z), ?_, q⟩
      show g.get? b = none
      cases r : g.get? b with
      | none => rfl
      | some v => exact (hn (.inr (by simp [r]))).elim
def rest (g h : Heap) (L d : Addr) : List (Addr × Obj) := (allNews g h L).filter fun p => decide (p.1 ≠ d)
theorem rest_ne {g h : Heap} {L d : Addr} : ∀ p ∈ rest g h L d, p.1 ≠ d := fun p hp => of_decide_eq_true (List.mem_filter.mp hp).2
theorem mem_rest {g h : Heap} {L d a : Addr} {o : Obj} (h1 : a ≠ L) (h2 : g.get? a = none) (h3 : h.get? a = some o) (h4 : a ≠ d) : (a, o) ∈ rest g h L d :=
  List.mem_filter.mpr ⟨mem_allNews h1 h2 h3, decide_eq_true h4⟩
theorem news_all {g h : Heap} {L : Addr} : News g L h (allNews g h L) := fun p hp => let ⟨a, b, c⟩ := of_mem_allNews hp; ⟨c, a, b⟩
theorem news_at {g h : Heap} {L d : Addr} {o : Obj} (h1 : d ≠ L) (h2 : g.get? d = none) (h3 : h.get? d = some o) : News g L h ((d, o) :: rest g h L d) := fun p hp => by
  rcases List.mem_cons.mp hp with rfl | hp
  · exact ⟨h3, h1, h2⟩
  · exact news_all p (List.mem_filter.mp hp).1
/-- behind a rule that changed d alone: all else but the frame is kept -/
theorem kept_of_news {g h h' : Heap} {L d : Addr} {m : Str → Option Value} (k : ∀ b o, g.get? b = some o → h.get? b = some o) (F : Fr g L h' m) (N : News g L h' (rest g h L d)) :
    ∀ b o, b ≠ L → b ≠ d → h.get? b = some o → h'.get? b = some o := fun b o h1 h2 e => by
  cases q : g.get? b with
  | some u =>
    have := k b u q
    rw [e] at this; cases this
    exact F.keep b _ q
  | none => exact (N (b, o) (mem_rest h1 q e h2)).1
end L2

namespace L2
open PySem PySem.Spec PyProof.Rows

/-- the module's facts, over the base: the heap at the law's entry without what is tracked there -/
structure Mod (K : PySem.W.Frag) (mg : Str → Option Value) (base : Heap) : Prop where
  kin : K.In base
  glob : base.Ns mainGlobals mg
  blt : ∃ mb, base.Ns builtinsNs mb ∧ ∀ x : Str, x ≠ "__name__" → mb x = bootBuiltins x
  nolimit : base.NoLimit

/-- the context: a def's body (or a comprehension's block) running. base: fixed through the whole law; s₀, H₀: the entry; outer: the frames whose slots others may change (a def's callers); stack: all frames that run;
   ex: iterators that were made ahead of the entry and are walked here (a comprehension's); fn: the names whose cells were made at the entry (a def: all; a comprehension's block: its own); calm: not within an except suite; pn: pins that every state bears; xe: what is wanted of an exception that leaves the code -/
structure Cx where
  prog : Program
  w : World
  K : PySem.W.Frag
  mg : Str → Option Value
  base : Heap
  A : Around
  N : List Str
  s₀ : Shared
  H₀ : Hp
  env : Env
  outer : List Env
  stack : List Env
  ex : List Addr
  fn : Str → Bool
  calm : Bool
  pn : List (Addr × Obj)
  xe : Value → Shared → Prop
/-- the callers' frames -/
def frs (l : List Env) : List Addr := l.filterMap (·.frame)
abbrev Cx.fs (X : Cx) : List Addr := frs X.outer

def Vis (sc : Scope) (x : Str) : Prop := sc.names.lookup x = some .local ∨ sc.names.lookup x = some .cell ∨ sc.names.lookup x = some .free
def Loc (sc : Scope) (x : Str) : Prop := sc.names.lookup x = some .local ∨ sc.names.lookup x = some .cell
def Look (env : Env) (h : Heap) (m : Str → Option Value) (x : Str) (u : Value) : Prop :=
  (env.kindOf x = some .local ∧ m x = some u) ∨ ((env.kindOf x = some .cell ∨ env.kindOf x = some .free) ∧ ∃ c, env.cells.lookup x = some c ∧ h.IsCell c (some u))

structure Cx.Ok (X : Cx) : Prop where
  mod : Mod X.K X.mg X.base
  kind : X.env.scope.kind = .function
  glob : X.env.globals = mainGlobals
  blt : X.env.builtins = builtinsNs
  above : X.s₀.heap.objs.size ≤ X.env.locals
  inj : ∀ x y c, X.env.cells.lookup x = some c → X.env.cells.lookup y = some c → x = y
  has : ∀ x, (X.env.kindOf x = some .cell ∨ X.env.kindOf x = some .free) → ∃ c, X.env.cells.lookup x = some c
  cab : ∀ x c, X.fn x = true → X.env.cells.lookup x = some c → X.s₀.heap.objs.size ≤ c
  hd : X.calm = true → X.A.handled = none
  frames : X.A.frames = some X.stack
  stk : X.stack = X.outer ∨ (X.stack = X.env :: X.outer ∧ X.env.frame = some X.env.locals)
  exf : ∀ b ∈ X.ex, b ≠ X.env.locals ∧ ∀ x c, X.env.cells.lookup x = some c → c ≠ b
  bs : ∀ b o, X.base.get? b = some o → X.s₀.heap.get? b = some o ∧ X.H₀ b = none
  bsz : X.base.objs.size ≤ X.s₀.heap.objs.size
  noex : ∀ b o, X.base.get? b = some o → b ∉ X.ex
  exfs : ∀ b ∈ X.ex, b ∉ X.fs
  funs : X.s₀.heap.FunFrames X.base X.outer
  frf : ∀ b ∈ X.fs, X.H₀ b = none

structure Inv (X : Cx) (pins : List (Addr × Obj)) (σ : List (Option V)) (H : Hp) (s : Shared) : Prop where
  ok : X.Ok
  os : s.os = X.s₀.os
  bare : AllBare s.gens
  base : Un X.fs X.ex X.H₀ H X.s₀.heap s.heap
  loc : ∃ m, s.heap.Ns X.env.locals m ∧ ∀ (i : Nat) (x : Str) (v : V), X.N[i]? = some x → σ[i]? = some (some v) → Vis X.env.scope x → ∃ u, RelV v u ∧ Look X.env s.heap m x u
  cell : ∀ x c, X.env.cells.lookup x = some c → ∃ v, s.heap.IsCell c v
  free : H X.env.locals = none
  freeC : ∀ x c, X.env.cells.lookup x = some c → H c = none
  pin : ∀ p ∈ X.pn ++ pins, s.heap.get? p.1 = some p.2 ∧ H p.1 = none ∧ p.1 ≠ X.env.locals ∧ p.1 ∉ X.fs ∧ ∀ v, p.2.data ≠ .cell v
  hok : HOk X.prog X.w H s.heap
  len : σ.length = X.N.length

section
variable {X : Cx} {pins : List (Addr × Obj)} {σ : List (Option V)} {H H' : Hp} {s : Shared} {h' : Heap}

theorem Cx.Ok.nofr (ok : X.Ok) {b : Addr} {o : Obj} (e : X.base.get? b = some o) : b ∉ X.fs := fun hb => by
  have := (ok.funs.mem hb).1
  rw [e] at this; cases this
theorem Inv.bs (I : Inv X pins σ H s) : ∀ b o, X.base.get? b = some o → s.heap.get? b = some o ∧ H b = none := fun b o e =>
  ⟨I.base.keep b o (I.ok.bs b o e).1 (I.ok.bs b o e).2 (I.ok.nofr e) (I.ok.noex b o e), I.base.free b o (I.ok.bs b o e).1 (I.ok.bs b o e).2 (I.ok.noex b o e)⟩
theorem Inv.bk (I : Inv X pins σ H s) : ∀ b o, X.base.get? b = some o → s.heap.get? b = some o := fun b o e => (I.bs b o e).1
theorem Inv.mod (I : Inv X pins σ H s) : Mod X.K X.mg X.base := I.ok.mod
theorem Inv.kIn (I : Inv X pins σ H s) : X.K.In s.heap := I.ok.mod.kin.keeps I.bk
theorem Inv.nolimit (I : Inv X pins σ H s) : s.heap.NoLimit := I.ok.mod.nolimit.keeps I.bk
/-- the frame over the base: for OpenK's rules (K.In X.base is I.mod.kin) -/
theorem Inv.fr (I : Inv X pins σ H s) : ∃ m, Fr X.base X.env.locals s.heap m :=
  let ⟨m, hn, _⟩ := I.loc
  ⟨m, hn, I.bk, Nat.le_trans I.ok.bsz I.ok.above⟩
theorem Inv.lt (I : Inv X pins σ H s) : X.env.locals < s.heap.objs.size := let ⟨_, hn, _⟩ := I.loc; hn.lt
theorem Inv.sz (I : Inv X pins σ H s) : X.s₀.heap.objs.size ≤ s.heap.objs.size := Nat.le_trans I.ok.above (Nat.le_of_lt I.lt)
theorem Inv.nofs (I : Inv X pins σ H s) {a : Addr} (h : s.heap.objs.size ≤ a) : a ∉ X.fs := fun hb => by
  obtain ⟨_, o, ho, _⟩ := I.ok.funs.mem hb
  exact absurd (Nat.lt_of_lt_of_le (Heap.lt_size ho) (Nat.le_trans I.sz h)) (Nat.lt_irrefl _)
theorem Inv.cne (I : Inv X pins σ H s) : ∀ x c, X.env.cells.lookup x = some c → c ≠ X.env.locals := fun x c e z => by
  obtain ⟨v, o, ho, hd⟩ := I.cell x c e
  obtain ⟨m, ⟨o', es, ep, ho', hd', _⟩, _⟩ := I.loc
  rw [z, ho'] at ho; cases ho; rw [hd'] at hd; cases hd
theorem Inv.funs (I : Inv X pins σ H s) : s.heap.FunFrames X.base X.outer := by
  have all : ∀ (l : List Env), (∀ b ∈ frs l, b ∈ X.fs) → X.s₀.heap.FunFrames X.base l → s.heap.FunFrames X.base l := by
    intro l
    induction l with
    | nil => intro _ _; trivial
    | cons env r ih =>
      intro hs hl
      obtain ⟨hk, ⟨L, o, hf, hn, ho, hd⟩, hr⟩ := hl
      have hL : L ∈ X.fs := hs L (by unfold frs; rw [List.filterMap_cons, hf]; exact List.mem_cons_self)
      obtain ⟨sl, e⟩ := I.base.slot L o ho (I.ok.frf L hL) hL fun z => I.ok.exfs L z hL
      exact ⟨hk, ⟨L, _, hf, hn, e, hd⟩, ih (fun b hb => hs b (by unfold frs; rw [List.filterMap_cons, hf]; exact List.mem_cons_of_mem _ hb)) hr⟩
  exact all X.outer (fun _ hb => hb) I.ok.funs

/-- the frames that run, for a call -/
theorem Inv.stack (I : Inv X pins σ H s) : s.heap.FunFrames X.base X.stack := by
  rcases I.ok.stk with e | ⟨e, hf⟩
  · rw [e]; exact I.funs
  · rw [e]
    obtain ⟨m, hn, _⟩ := I.loc
    refine .cons (by rw [I.ok.kind]; decide) hf hn ?_ I.funs
    exact Heap.get?_none_of_le (Nat.le_trans I.ok.bsz I.ok.above)
theorem Inv.stkSub (I : Inv X pins σ H s) : ∀ b ∈ frs X.stack, b ∈ X.env.locals :: X.fs := fun b hb => by
  rcases I.ok.stk with e | ⟨e, hf⟩
  · rw [e] at hb; exact List.mem_cons_of_mem _ hb
  · rw [e] at hb
    unfold frs at hb
    rw [List.filterMap_cons, hf] at hb
    exact hb
theorem Inv.stkFree (I : Inv X pins σ H s) : ∀ b ∈ frs X.stack, H b = none := fun b hb => by
  rcases List.mem_cons.mp (I.stkSub b hb) with e | hb
  · rw [e]; exact I.free
  · obtain ⟨_, o, ho, _⟩ := I.ok.funs.mem hb
    exact I.base.free b o ho (I.ok.frf b hb) fun z => I.ok.exfs b z hb

/-- THE STEP: the untracked objects but the frame and the records at ch are kept (the callers' frames up to slots), the frame's map is kept, the new abstract heap is held -/
theorem Inv.step {g' : Array GenState} {t' : Nat} {d' : Drawn} {ch : List Addr} (I : Inv X pins σ H s)
    (hch : ∀ b ∈ ch, (b ∈ X.ex ∨ X.s₀.heap.objs.size ≤ b) ∧ b ≠ X.env.locals ∧ (∀ x c, X.env.cells.lookup x = some c → c ≠ b) ∧ ∀ p ∈ X.pn ++ pins, p.1 ≠ b)
    (keep : ∀ b o, b ≠ X.env.locals → b ∉ X.fs → b ∉ ch → s.heap.get? b = some o → H b = none → h'.get? b = some o)
    (slot : ∀ b o, b ≠ X.env.locals → b ∈ X.fs → b ∉ ch → s.heap.get? b = some o → H b = none → ∃ sl, h'.get? b = some { o with slots := sl }) (free : ∀ b o, b ∉ ch → s.heap.get? b = some o → H b = none → H' b = none)
    (there : ∀ b o, b ∉ ch → s.heap.get? b = some o → ∃ o', h'.get? b = some o')
    (tups : ∀ b xs, H b = some (.tup xs) → H' b = some (.tup xs)) (frzs : ∀ b o u, H b = some (.frz o u) → H' b = some (.frz o u)) (tbls : ∀ b ps, H b = some (.tbl ps) → ∃ more, H' b = some (.tbl (ps ++ more)))
    (ns : ∀ m, s.heap.Ns X.env.locals m → h'.Ns X.env.locals m) (hok : HOk X.prog X.w H' h') (hg : AllBare g') :
    Inv X pins σ H' { s with heap := h', gens := g', drawn := d', toks := t' } := by
  have neL : ∀ b o, X.s₀.heap.get? b = some o → b ≠ X.env.locals := fun b o e => Nat.ne_of_lt (Nat.lt_of_lt_of_le (Heap.lt_size e) I.ok.above)
  have neC : ∀ b o, X.s₀.heap.get? b = some o → b ∉ X.ex → b ∉ ch := fun b o e hx hb => by
    rcases (hch b hb).1 with z | z
    · exact hx z
    · exact absurd (Nat.lt_of_lt_of_le (Heap.lt_size e) z) (Nat.lt_irrefl _)
  have cellK : ∀ x c, X.env.cells.lookup x = some c → ∀ v, s.heap.IsCell c v → h'.IsCell c v := fun x c e v ⟨o, ho, hd⟩ => by
    have nch : c ∉ ch := fun z => (hch c z).2.2.1 x c e rfl
    by_cases hc : c ∈ X.fs
    · obtain ⟨sl, q⟩ := slot c o (I.cne x c e) hc nch ho (I.freeC x c e)
      exact ⟨_, q, hd⟩
    · exact ⟨o, keep c o (I.cne x c e) hc nch ho (I.freeC x c e), hd⟩
  refine ⟨I.ok, I.os, hg, ⟨fun b o e n hb hx => ?_, fun b o e n hb hx => ?_, fun b o e n hx => ?_, fun b o e hx => ?_, fun b xs e => tups b xs (I.base.tups b xs e), fun b o xs e => frzs b o xs (I.base.frzs b o xs e), fun b ps e => ?_⟩, ?_, fun x c e => ?_, ?_, fun x c e => ?_, fun p hp => ?_, hok, I.len⟩
  · exact keep b o (neL b o e) hb (neC b o e hx) (I.base.keep b o e n hb hx) (I.base.free b o e n hx)
  · obtain ⟨sl, e1⟩ := I.base.slot b o e n hb hx
    obtain ⟨sl', e2⟩ := slot b _ (neL b o e) hb (neC b o e hx) e1 (I.base.free b o e n hx)
    exact ⟨sl', e2⟩
  · obtain ⟨o', e1⟩ := I.base.there b o e hx
    exact free b o' (neC b o e hx) e1 (I.base.free b o e n hx)
  · obtain ⟨o', e1⟩ := I.base.there b o e hx
    exact there b o' (neC b o e hx) e1
  · obtain ⟨m1, e1⟩ := I.base.tbls b ps e
    obtain ⟨m2, e2⟩ := tbls b _ e1
    exact ⟨m1 ++ m2, by rw [e2, Array.append_assoc]⟩
  · obtain ⟨m, hn, hl⟩ := I.loc
    refine ⟨m, ns m hn, fun i x v e1 e2 e3 => ?_⟩
    obtain ⟨u, r, l⟩ := hl i x v e1 e2 e3
    refine ⟨u, r, ?_⟩
    rcases l with l | ⟨k, c, e, z⟩
    · exact .inl l
    · exact .inr ⟨k, c, e, cellK x c e _ z⟩
  · obtain ⟨v, z⟩ := I.cell x c e
    exact ⟨v, cellK x c e v z⟩
  · obtain ⟨m, ⟨o, _, _, ho, _⟩, _⟩ := I.loc
    exact free _ o (fun z => (hch _ z).2.1 rfl) ho I.free
  · obtain ⟨v, o, ho, hd⟩ := I.cell x c e
    exact free c o (fun z => (hch c z).2.2.1 x c e rfl) ho (I.freeC x c e)
  · obtain ⟨e, n, ne, nf, d⟩ := I.pin p hp
    have nch : p.1 ∉ ch := fun z => (hch p.1 z).2.2.2 p hp rfl
    exact ⟨keep p.1 p.2 ne nf nch e n, free p.1 p.2 nch e n, ne, nf, d⟩
/-- .. where the frame's own object is kept too -/
theorem Inv.un {t' : Nat} (I : Inv X pins σ H s) (u : Un X.fs [] H H' s.heap h') (hok : HOk X.prog X.w H' h') : Inv X pins σ H' { s with heap := h', toks := t' } := by
  obtain ⟨m, ⟨o, es, ep, ho, r⟩, _⟩ := id I.loc
  obtain ⟨sl, hL⟩ := u.any ho I.free (by simp)
  exact I.step (g' := s.gens) (d' := s.drawn) (ch := []) (fun _ z => nomatch z) (fun b o _ hb _ e n => u.keep b o e n hb (by simp)) (fun b o _ hb _ e n => u.slot b o e n hb (by simp)) (fun b o _ e n => u.free b o e n (by simp)) (fun b o _ e => u.there b o e (by simp)) u.tups u.frzs u.tbls (fun m' hm => by
    obtain ⟨o', es', ep', ho', r'⟩ := hm
    rw [ho] at ho'; cases ho'
    exact ⟨_, es', ep', hL, r'⟩) hok I.bare
/-- behind a call (or a comprehension's block): the slots of this frame may have changed too, the records at ch may have turned -/
theorem Inv.call {g' : Array GenState} {t' : Nat} {d' : Drawn} {ch : List Addr} (I : Inv X pins σ H s) (u : Un (frs X.stack) ch H H' s.heap h') (hok : HOk X.prog X.w H' h') (hg : AllBare g')
    (hch : ∀ b ∈ ch, (b ∈ X.ex ∨ X.s₀.heap.objs.size ≤ b) ∧ b ≠ X.env.locals ∧ (∀ x c, X.env.cells.lookup x = some c → c ≠ b) ∧ ∀ p ∈ X.pn ++ pins, p.1 ≠ b) :
    Inv X pins σ H' { s with heap := h', gens := g', drawn := d', toks := t' } := by
  obtain ⟨m, ⟨o, es, ep, ho, r⟩, _⟩ := id I.loc
  obtain ⟨sl, hL⟩ := u.any ho I.free fun z => (hch _ z).2.1 rfl
  exact I.step (ch := ch) hch (fun b o hL hb hc e n => u.keep b o e n (fun z => (List.mem_cons.mp (I.stkSub b z)).elim hL hb) hc) (fun b o _ _ hc e n => u.any e n hc) (fun b o hc e n => u.free b o e n hc) (fun b o hc e => u.there b o e hc) u.tups u.frzs u.tbls (fun m' hm => by
    obtain ⟨o', es', ep', ho', r'⟩ := hm
    rw [ho] at ho'; cases ho'
    exact ⟨_, es', ep', hL, r'⟩) hok hg
/-- an untracked record of ours (an iterator) has turned -/
theorem Inv.turned {t' : Nat} {it : Addr} (I : Inv X pins σ H s) (k : ∀ b o, b ≠ it → s.heap.get? b = some o → h'.get? b = some o) (hn : H it = none) (hL : it ≠ X.env.locals)
    (h1 : it ∈ X.ex ∨ X.s₀.heap.objs.size ≤ it) (h2 : ∀ x c, X.env.cells.lookup x = some c → c ≠ it) (h3 : ∀ p ∈ X.pn ++ pins, p.1 ≠ it) : Inv X pins σ H { s with heap := h', toks := t' } := by
  have nit : ∀ b u, H b = some u → b ≠ it := fun b u e z => by rw [z, hn] at e; cases e
  refine I.step (g' := s.gens) (d' := s.drawn) (ch := [it]) (fun b hb => ?_) (fun b o _ _ hc e _ => k b o (fun z => hc (by simp [z])) e) (fun b o _ _ hc e _ => ⟨o.slots, k b o (fun z => hc (by simp [z])) e⟩) (fun _ _ _ _ n => n)
    (fun b o hc e => ⟨o, k b o (fun z => hc (by simp [z])) e⟩) (fun _ _ e => e) (fun _ _ _ e => e) (fun b ps e => ⟨#[], by rw [e]; simp⟩) (fun m hm => ?_) (fun b u e => ?_) I.bare
  · have e : b = it := by simpa using hb
    subst e
    exact ⟨h1, hL, h2, h3⟩
  · obtain ⟨o, es, ep, ho, r⟩ := hm
    exact ⟨o, es, ep, k _ o (Ne.symm hL) ho, r⟩
  · refine (I.hok b u e).stay (fun c v hc q => k c v ?_ q) (fun _ q => q) fun _ _ q => q
    rcases hc with z | z
    · rw [z]; exact nit b u e
    · exact nit c _ z
theorem Inv.tok (I : Inv X pins σ H s) (t : Nat) : Inv X pins σ H { s with toks := t } := I.un (h' := s.heap) (t' := t) Un.refl I.hok
/-- all objects kept -/
theorem Inv.kept {t' : Nat} (I : Inv X pins σ H s) (k : ∀ b u, s.heap.get? b = some u → h'.get? b = some u) : Inv X pins σ H { s with heap := h', toks := t' } := I.un (Un.kept k) (I.hok.kept k)
/-- a new object laid and tracked -/
theorem Inv.laid {a : Addr} {o : HO} {t' : Nat} (I : Inv X pins σ H s) (k : ∀ b u, s.heap.get? b = some u → h'.get? b = some u) (hp : s.heap.objs.size ≤ a) (new : ObjOk X.prog X.w (upd H a o) h' a o) :
    Inv X pins σ (upd H a o) { s with heap := h', toks := t' } := I.un (Un.laid k hp (I.hok.fresh hp)) (I.hok.laid k hp new)
/-- an object written -/
theorem Inv.write {x e : Addr} {o : HO} {t' : Nat} (I : Inv X pins σ H s) (mu : Mut (H x)) (he : e = x ∨ H e = some (.own x)) (k : ∀ b u, b ≠ e → s.heap.get? b = some u → h'.get? b = some u) (heo : ∃ u, h'.get? e = some u)
    (new : ObjOk X.prog X.w (upd H x o) h' x o) : Inv X pins σ (upd H x o) { s with heap := h', toks := t' } := I.un (Un.write mu he k heo) (I.hok.write mu he k heo new)
/-- forgetting slots, pins -/
theorem Inv.weak {σ' : List (Option V)} (I : Inv X pins σ H s) (hl : σ'.length = σ.length) (w : ∀ (i : Nat) v, σ'[i]? = some (some v) → σ[i]? = some (some v)) : Inv X pins σ' H s :=
  ⟨I.ok, I.os, I.bare, I.base, let ⟨m, hn, hl'⟩ := I.loc; ⟨m, hn, fun i x v e1 e2 e3 => hl' i x v e1 (w i v e2) e3⟩, I.cell, I.free, I.freeC, I.pin, I.hok, hl.trans I.len⟩
theorem Inv.pins_of {pins' : List (Addr × Obj)} (I : Inv X pins σ H s) (h : ∀ p ∈ pins', s.heap.get? p.1 = some p.2 ∧ H p.1 = none ∧ p.1 ≠ X.env.locals ∧ p.1 ∉ X.fs ∧ ∀ v, p.2.data ≠ .cell v) : Inv X pins' σ H s :=
  ⟨I.ok, I.os, I.bare, I.base, I.loc, I.cell, I.free, I.freeC, fun p hp => (List.mem_append.mp hp).elim (fun z => I.pin p (List.mem_append_left _ z)) (h p), I.hok, I.len⟩

theorem nodup_ix {N : List Str} (hN : N.Nodup) {i j : Nat} {x : Str} (a : N[i]? = some x) (b : N[j]? = some x) : i = j := by
  obtain ⟨h1, e1⟩ := List.getElem?_eq_some_iff.mp a
  obtain ⟨h2, e2⟩ := List.getElem?_eq_some_iff.mp b
  exact (List.getElem_inj hN).mp (e1.trans e2.symm)

/-- a name is stored; what changed -/
theorem store_ok2 {M : Model} {A : Around} {E : Value → Shared → Prop} {i : Nat} {x : Str} {v : V} {u : Value} {Q : Unit → Shared → Prop} (I : Inv X pins σ H s) (hN : X.N.Nodup) (hi : X.N[i]? = some x) (hx : Loc X.env.scope x) (r : RelV v u)
    (h : ∀ s', Inv X pins (σ.set i (some v)) H s' → (∃ a, Heap.SameBut a s.heap s'.heap ∧ (a = X.env.locals ∨ X.env.cells.lookup x = some a)) → Q () s') (hf : X.fn x = true ∨ X.env.scope.names.lookup x = some .local := by first | exact .inl rfl | exact .inr rfl | assumption) : wpAny M A (storeName X.env x u) Q E s := by
  obtain ⟨m, hn, hl⟩ := id I.loc
  have hcls : (X.env.scope.kind == .class || (X.env.scope.kind == .module && X.env.locals != X.env.globals)) = false := by rw [I.ok.kind]; rfl
  have hiσ : i < σ.length := by rw [I.len]; exact (List.getElem?_eq_some_iff.mp hi).1
  have cne := I.cne
  have tracked : ∀ {a : Addr} {h' : Heap}, (∃ o, s.heap.get? a = some o ∧ H a = none) → Heap.SameBut a s.heap h' → HOk X.prog X.w H h' := fun {a h'} ha hs b ob e => by
    obtain ⟨_, _, hfree⟩ := ha
    refine (I.hok b ob e).stay (fun c w' hc q => (hs.2 c ?_).trans q) (fun _ q => q) fun _ _ q => q
    rintro rfl
    rcases hc with rfl | hc
    · rw [hfree] at e; cases e
    · rw [hfree] at hc; cases hc
  rcases hx with hk | hk
  · refine wpAny_storeName_local hk hn (fun h' hn' hs => ?_) hcls
    obtain ⟨oL, _, _, hoL, _⟩ := id hn
    refine h _ ⟨I.ok, I.os, I.bare, ⟨fun b o e n hb hx => ?_, fun b o e n hb hx => ?_, I.base.free, fun b o e hx => ?_, I.base.tups, I.base.frzs, I.base.tbls⟩, ⟨_, hn', fun j y v' e1 e2 e3 => ?_⟩, fun y c e => ?_, I.free, I.freeC, fun p hp => ?_, tracked ⟨oL, hoL, I.free⟩ hs, by simpa using I.len⟩ ⟨_, hs, .inl rfl⟩
    · exact (hs.2 b (Nat.ne_of_lt (Nat.lt_of_lt_of_le (Heap.lt_size e) I.ok.above))).trans (I.base.keep b o e n hb hx)
    · obtain ⟨sl, e1⟩ := I.base.slot b o e n hb hx
      exact ⟨sl, (hs.2 b (Nat.ne_of_lt (Nat.lt_of_lt_of_le (Heap.lt_size e) I.ok.above))).trans e1⟩
    · obtain ⟨o', e1⟩ := I.base.there b o e hx
      exact ⟨o', (hs.2 b (Nat.ne_of_lt (Nat.lt_of_lt_of_le (Heap.lt_size e) I.ok.above))).trans e1⟩
    · by_cases hj : j = i
      · subst hj
        rw [hi] at e1; cases e1
        rw [List.getElem?_set_self hiσ] at e2
        cases e2
        exact ⟨u, r, .inl ⟨hk, by simp⟩⟩
      · rw [List.getElem?_set_ne (Ne.symm hj)] at e2
        obtain ⟨u', r', q⟩ := hl j y v' e1 e2 e3
        refine ⟨u', r', ?_⟩
        rcases q with ⟨k, e⟩ | ⟨k, c, e, z⟩
        · refine .inl ⟨k, ?_⟩
          have : y ≠ x := fun e => hj (nodup_ix hN e1 (e ▸ hi))
          simp [this, e]
        · exact .inr ⟨k, c, e, z.sameBut hs (cne y c e)⟩
    · obtain ⟨w', z⟩ := I.cell y c e
      exact ⟨w', z.sameBut hs (cne y c e)⟩
    · obtain ⟨e, n, ne, nf, d⟩ := I.pin p hp
      exact ⟨(hs.2 p.1 ne).trans e, n, ne, nf, d⟩
  · have hfn : X.fn x = true := by
      rcases hf with z | z
      · exact z
      · rw [z] at hk; cases hk
    obtain ⟨c, hc⟩ := I.ok.has x (.inl hk)
    obtain ⟨w', z⟩ := I.cell x c hc
    refine wpAny_storeName_cell I.ok.kind hk hc z (fun h' hc' hs => ?_)
    obtain ⟨oc, hoc, hocd⟩ := id z
    refine h { s with heap := h' } ⟨I.ok, I.os, I.bare, ⟨fun b o e n hb hx => ?_, fun b o e n hb hx => ?_, I.base.free, fun b o e hx => ?_, I.base.tups, I.base.frzs, I.base.tbls⟩, ⟨m, hn.sameBut hs (Ne.symm (cne x c hc)), fun j y v' e1 e2 e3 => ?_⟩, fun y c' e => ?_, I.free, I.freeC, fun p hp => ?_, tracked ⟨oc, hoc, I.freeC x c hc⟩ hs, by simpa using I.len⟩ ⟨c, hs, .inr hc⟩
    · exact (hs.2 b (Nat.ne_of_lt (Nat.lt_of_lt_of_le (Heap.lt_size e) (I.ok.cab x c hfn hc)))).trans (I.base.keep b o e n hb hx)
    · obtain ⟨sl, e1⟩ := I.base.slot b o e n hb hx
      exact ⟨sl, (hs.2 b (Nat.ne_of_lt (Nat.lt_of_lt_of_le (Heap.lt_size e) (I.ok.cab x c hfn hc)))).trans e1⟩
    · obtain ⟨o', e1⟩ := I.base.there b o e hx
      exact ⟨o', (hs.2 b (Nat.ne_of_lt (Nat.lt_of_lt_of_le (Heap.lt_size e) (I.ok.cab x c hfn hc)))).trans e1⟩
    · by_cases hj : j = i
      · subst hj
        rw [hi] at e1; cases e1
        rw [List.getElem?_set_self hiσ] at e2
        cases e2
        exact ⟨u, r, .inr ⟨.inl hk, c, hc, hc'⟩⟩
      · rw [List.getElem?_set_ne (Ne.symm hj)] at e2
        obtain ⟨u', r', q⟩ := hl j y v' e1 e2 e3
        refine ⟨u', r', ?_⟩
        rcases q with q | ⟨k, c', e, z'⟩
        · exact .inl q
        · refine .inr ⟨k, c', e, z'.sameBut hs ?_⟩
          rintro rfl
          exact hj (nodup_ix hN e1 (I.ok.inj _ _ _ e hc ▸ hi))
    · by_cases hcc : c' = c
      · subst hcc; exact ⟨_, hc'⟩
      · obtain ⟨w2, z2⟩ := I.cell y c' e
        exact ⟨w2, z2.sameBut hs hcc⟩
    · obtain ⟨e, n, ne, nf, d⟩ := I.pin p hp
      refine ⟨(hs.2 p.1 ?_).trans e, n, ne, nf, d⟩
      intro q
      rw [q, hoc] at e
      have q' : oc = p.2 := Option.some.inj e
      exact d w' (by rw [← q']; exact hocd)
theorem store_ok {M : Model} {A : Around} {E : Value → Shared → Prop} {i : Nat} {x : Str} {v : V} {u : Value} {Q : Unit → Shared → Prop} (I : Inv X pins σ H s) (hN : X.N.Nodup) (hi : X.N[i]? = some x) (hx : Loc X.env.scope x) (r : RelV v u)
    (h : ∀ s', Inv X pins (σ.set i (some v)) H s' → Q () s') (hf : X.fn x = true ∨ X.env.scope.names.lookup x = some .local := by first | exact .inl rfl | exact .inr rfl | assumption) : wpAny M A (storeName X.env x u) Q E s :=
  store_ok2 I hN hi hx r (fun s' I' _ => h s' I') hf
/-- behind a call or a block, the state as it is -/
theorem Inv.call' {s' : Shared} {ch : List Addr} (I : Inv X pins σ H s) (ho : s'.os = s.os) (u : Un (frs X.stack) ch H H' s.heap s'.heap) (hok : HOk X.prog X.w H' s'.heap) (hg : AllBare s'.gens)
    (hch : ∀ b ∈ ch, (b ∈ X.ex ∨ X.s₀.heap.objs.size ≤ b) ∧ b ≠ X.env.locals ∧ (∀ x c, X.env.cells.lookup x = some c → c ≠ b) ∧ ∀ p ∈ X.pn ++ pins, p.1 ≠ b) : Inv X pins σ H' s' := by
  obtain ⟨h', g', d', t', o'⟩ := s'
  have e : o' = s.os := ho
  subst e
  exact I.call (g' := g') (t' := t') (d' := d') u hok hg hch
end

/-! ### the judgements -/
/-- an exception: its class, its own dict's address (where it has one), the abstract heap behind it -/
abbrev XK := Value → Option Addr → Hp → Prop
abbrev St := List (Option V)
abbrev VK := V → Hp → Prop
/-- an expression's reading; a test's; an argument list's -/
abbrev TE := St → Hp → VK → Prop
abbrev TT := St → Hp → (Bool → Hp → Prop) → Prop
abbrev TA := St → Hp → (List V → Hp → Prop) → Prop
/-- what is wanted behind a statement -/
structure Ends where
  nx : St → Hp → Prop
  rt : VK
  bk : St → Hp → Prop := fun _ _ => False
  ct : St → Hp → Prop := fun _ _ => False
abbrev TS := Ends → St → Hp → Prop

def EP (X : Cx) (pins : List (Addr × Obj)) (σ : St) (Q : VK) (u : Value) (s' : Shared) : Prop := ∃ v H', Inv X pins σ H' s' ∧ RelV v u ∧ Q v H'
def TP (X : Cx) (pins : List (Addr × Obj)) (σ : St) (Q : Bool → Hp → Prop) (b : Bool) (s' : Shared) : Prop := ∃ H', Inv X pins σ H' s' ∧ Q b H'
def AP (X : Cx) (pins : List (Addr × Obj)) (σ : St) (Q : List V → Hp → Prop) (us : List Value) (s' : Shared) : Prop := ∃ vs H', Inv X pins σ H' s' ∧ Vals vs us ∧ Q vs H'
def SP (X : Cx) (pins : List (Addr × Obj)) (D : Ends) (f : Flow) (s' : Shared) : Prop :=
  match f with
  | .next => ∃ σ' H', Inv X pins σ' H' s' ∧ D.nx σ' H'
  | .brk => ∃ σ' H', Inv X pins σ' H' s' ∧ D.bk σ' H'
  | .cont => ∃ σ' H', Inv X pins σ' H' s' ∧ D.ct σ' H'
  | .ret u => ∃ v σ' H', Inv X pins σ' H' s' ∧ RelV v u ∧ D.rt v H'

def PE (X : Cx) (e : Expr) (t : TE) : Prop :=
  ∀ (pins : List (Addr × Obj)) (s : Shared) (σ : St) (H : Hp) (Q : VK), Inv X pins σ H s → t σ H Q → wpAny (model X.prog X.w) X.A (eval e X.env) (EP X pins σ Q) X.xe s
def PT (X : Cx) (e : Expr) (t : TT) : Prop :=
  ∀ (pins : List (Addr × Obj)) (s : Shared) (σ : St) (H : Hp) (Q : Bool → Hp → Prop), Inv X pins σ H s → t σ H Q → wpAny (model X.prog X.w) X.A (isTrue e X.env (eval e X.env)) (TP X pins σ Q) X.xe s
/-- a test whatever its 'whole' is (and, or) -/
def PW (X : Cx) (e : Expr) (t : TT) : Prop :=
  ∀ (whole : Sem Value) (pins : List (Addr × Obj)) (s : Shared) (σ : St) (H : Hp) (Q : Bool → Hp → Prop), Inv X pins σ H s → t σ H Q → wpAny (model X.prog X.w) X.A (isTrue e X.env whole) (TP X pins σ Q) X.xe s
theorem PW.pt {X : Cx} {e : Expr} {t : TT} (h : PW X e t) : PT X e t := h _
/-- an argument list (no star), from the left -/
def PA (X : Cx) (es : List Expr) (t : TA) : Prop :=
  ∀ (pos : Pos) (pins : List (Addr × Obj)) (s : Shared) (σ : St) (H : Hp) (Q : List V → Hp → Prop), Inv X pins σ H s → t σ H Q → wpAny (model X.prog X.w) X.A (spliced (backTo pos (starEach es X.env))) (AP X pins σ Q) X.xe s
def PS (X : Cx) (st : Stmt) (t : TS) : Prop :=
  ∀ (pins : List (Addr × Obj)) (s : Shared) (σ : St) (H : Hp) (D : Ends), Inv X pins σ H s → t D σ H → wpAny (model X.prog X.w) X.A (exec st X.env) (SP X pins D) X.xe s
def PSs (X : Cx) (st : List Stmt) (t : TS) : Prop :=
  ∀ (pins : List (Addr × Obj)) (s : Shared) (σ : St) (H : Hp) (D : Ends), Inv X pins σ H s → t D σ H → wpAny (model X.prog X.w) X.A (execs st X.env) (SP X pins D) X.xe s
/-- weaken the end -/
theorem thn {α : Type} {t : Sem α} {Q Q' : α → Shared → Prop} {M : Model} {A : Around} {E : Value → Shared → Prop} {s : Shared} (h : wpAny M A t Q E s) (hQ : ∀ a s, Q a s → Q' a s) : wpAny M A t Q' E s := wpAny_mono h hQ fun _ _ x => x
end L2

namespace L2
open PySem PySem.Spec PyProof.Rows
section
variable {X : Cx}

/-- two expressions in a row -/
theorem bin {a b : Expr} {ta tb : TE} (ha : PE X a ta) (hb : PE X b tb) {pins : List (Addr × Obj)} {s : Shared} {σ : St} {H : Hp} {R : V → V → Hp → Prop} (I : Inv X pins σ H s) (h : ta σ H fun x H1 => tb σ H1 fun y H2 => R x y H2)
    {α : Type} {Q : α → Shared → Prop} {f : Value → Value → Sem α}
    (hf : ∀ v u s2 x y H2, Inv X pins σ H2 s2 → RelV x v → RelV y u → R x y H2 → wpAny (model X.prog X.w) X.A (f v u) Q X.xe s2) :
    wpAny (model X.prog X.w) X.A (eval a X.env) (fun v s₁ => wpAny (model X.prog X.w) X.A (eval b X.env) (fun u s₂ => wpAny (model X.prog X.w) X.A (f v u) Q X.xe s₂) X.xe s₁) X.xe s := by
  refine thn (ha pins s σ H _ I h) fun v s1 ⟨x, H1, I1, r1, q1⟩ => ?_
  refine thn (hb pins s1 σ H1 _ I1 q1) fun u s2 ⟨y, H2, I2, r2, q2⟩ => ?_
  exact hf v u s2 x y H2 I2 r1 r2 q2

/-! ### names and constants -/
def tVar (i : Nat) : TE := fun σ H Q => ∃ v, σ[i]? = some (some v) ∧ Q v H
def tC (v : V) : TE := fun _ H Q => Q v H
theorem pe_var {i : Nat} {x : Str} {pos : Pos} (hN : X.N[i]? = some x) (hv : Vis X.env.scope x) (hd : (x == ("__debug__" : Str)) = false := by decide) (hcd : (x == ("__classdict__" : Str)) = false := by decide) : PE X (.Name x pos) (tVar i) := by
  intro pins s σ H Q I h
  obtain ⟨v, e, h⟩ := h
  obtain ⟨m, hn, hl⟩ := I.loc
  obtain ⟨u, r, l⟩ := hl i x v hN e hv
  have fin : EP X pins σ Q u s := ⟨v, H, I, r, h⟩
  rcases l with ⟨hk, hm⟩ | ⟨hk, c, hc, hcell⟩
  · exact wpAny_Name (wpAny_loadName_local I.ok.kind hk hn hm fin) hd
  · rcases hk with hk | hk
    · exact wpAny_Name (wpAny_loadName_cell I.ok.kind hk hc hcell fin) hd
    · exact wpAny_Name (wpAny_loadName_free I.ok.kind hk hc hcell fin hcd) hd
theorem pe_int {i j pos} : PE X (.Constant (.int i) j pos) (tC (.int i)) := fun _ _ _ H _ I h => wpAny_Constant_int ⟨.int i, H, I.tok _, ⟨_, rfl⟩, h⟩
theorem pe_bl {b j pos} : PE X (.Constant (.bool b) j pos) (tC (.bl b)) := fun _ _ _ H _ I h => Constant_bool ⟨.bl b, H, I, rfl, h⟩
theorem pe_non {j pos} : PE X (.Constant .none j pos) (tC .non) := fun _ _ _ H _ I h => Constant_none ⟨.non, H, I, rfl, h⟩
theorem pe_str {x j pos} : PE X (.Constant (.str x) j pos) (tC (.str x)) := fun _ _ _ H _ I h => Calls.Constant_str ⟨.str x, H, I.tok _, ⟨_, rfl⟩, h⟩

/-- a global name of the def -/
def Gl (X : Cx) (x : Str) : Prop := X.env.kindOf x = some .globalImplicit
theorem ld_glob {E : Value → Shared → Prop} {pins : List (Addr × Obj)} {s : Shared} {σ : St} {H : Hp} {x : Str} {u : Value} {pos : Pos} {Q : Value → Shared → Prop} (I : Inv X pins σ H s) (hg : Gl X x) (hm : X.mg x = some u) (h : Q u s)
    (hd : (x == ("__debug__" : Str)) = false := by decide) : wpAny (model X.prog X.w) X.A (eval (.Name x pos) X.env) Q E s :=
  Calls.Name_function_global I.ok.kind hg (Calls.loadGlobal_global (by rw [I.ok.glob]; exact I.mod.glob.keeps I.bk) hm h) hd
theorem ld_blt {E : Value → Shared → Prop} {pins : List (Addr × Obj)} {s : Shared} {σ : St} {H : Hp} {x : Str} {u : Value} {pos : Pos} {Q : Value → Shared → Prop} (I : Inv X pins σ H s) (hg : Gl X x) (hm : X.mg x = none) (hv : bootBuiltins x = some u) (h : Q u s)
    (hn : x ≠ "__name__" := by decide) (hd : (x == ("__debug__" : Str)) = false := by decide) : wpAny (model X.prog X.w) X.A (eval (.Name x pos) X.env) Q E s := by
  obtain ⟨mb, h1, h2⟩ := I.mod.blt
  exact Calls.Name_function_global I.ok.kind hg (Calls.loadGlobal_builtin (by rw [I.ok.glob]; exact I.mod.glob.keeps I.bk) hm (by rw [I.ok.blt]; exact h1.keeps I.bk) ((h2 x hn).trans hv) h) hd
/-- a module's constant, a class, a function, as a value -/
theorem pe_glob {x : Str} {v : V} {u : Value} {pos : Pos} (hg : Gl X x) (hm : X.mg x = some u) (r : RelV v u) (hd : (x == ("__debug__" : Str)) = false := by decide) : PE X (.Name x pos) (tC v) :=
  fun _ _ _ H _ I h => ld_glob I hg hm ⟨v, H, I, r, h⟩ hd
theorem pe_bltn {x : Str} {v : V} {u : Value} {pos : Pos} (hg : Gl X x) (hm : X.mg x = none) (hv : bootBuiltins x = some u) (r : RelV v u) (hn : x ≠ "__name__" := by decide) (hd : (x == ("__debug__" : Str)) = false := by decide) : PE X (.Name x pos) (tC v) :=
  fun _ _ _ H _ I h => ld_blt I hg hm hv ⟨v, H, I, r, h⟩ hn hd

/-! ### arithmetic -/
/-- two ints -/
def t2I (ta tb : TE) (k : Int → Int → Hp → Prop) : St → Hp → Prop := fun σ H => ta σ H fun x H1 => tb σ H1 fun y H2 => ∃ i j, x = .int i ∧ y = .int j ∧ k i j H2
def tAdd (ta tb : TE) : TE := fun σ H Q => t2I ta tb (fun i j H2 => Q (.int (i + j)) H2) σ H
def tSub (ta tb : TE) : TE := fun σ H Q => t2I ta tb (fun i j H2 => Q (.int (i - j)) H2) σ H
/-- the left factor below 2^64 -/
def tMul (ta tb : TE) : TE := fun σ H Q => t2I ta tb (fun i j H2 => (-(2 ^ 64) < i ∧ i < 2 ^ 64) ∧ Q (.int (i * j)) H2) σ H
variable {a b : Expr} {ta tb : TE} {pos : Pos}
theorem pe_add (ha : PE X a ta) (hb : PE X b tb) : PE X (.BinOp a .Add b pos) (tAdd ta tb) := by
  intro pins s σ H Q I h
  refine wpAny_BinOp (bin ha hb I h fun v u s2 x y H2 I2 rx ry q => ?_)
  obtain ⟨i, j, rfl, rfl, q⟩ := q
  obtain ⟨t, rfl⟩ := rx
  obtain ⟨t', rfl⟩ := ry
  exact add_int ⟨.int _, H2, I2.tok _, ⟨_, rfl⟩, q⟩
theorem pe_sub (ha : PE X a ta) (hb : PE X b tb) : PE X (.BinOp a .Sub b pos) (tSub ta tb) := by
  intro pins s σ H Q I h
  refine wpAny_BinOp (bin ha hb I h fun v u s2 x y H2 I2 rx ry q => ?_)
  obtain ⟨i, j, rfl, rfl, q⟩ := q
  obtain ⟨t, rfl⟩ := rx
  obtain ⟨t', rfl⟩ := ry
  exact sub_int ⟨.int _, H2, I2.tok _, ⟨_, rfl⟩, q⟩
theorem pe_mul (ha : PE X a ta) (hb : PE X b tb) : PE X (.BinOp a .Mult b pos) (tMul ta tb) := by
  intro pins s σ H Q I h
  refine wpAny_BinOp (bin ha hb I h fun v u s2 x y H2 I2 rx ry q => ?_)
  obtain ⟨i, j, rfl, rfl, ⟨q1, q2⟩, q⟩ := q
  obtain ⟨t, rfl⟩ := rx
  obtain ⟨t', rfl⟩ := ry
  exact mul_int ⟨.int _, H2, I2.tok _, ⟨_, rfl⟩, q⟩ (.of_left (intBits_le_64 q1 q2))

/-! ### comparisons -/
def PC (X : Cx) (op : CmpOp) (a b : Expr) (t : TE) : Prop :=
  ∀ (pins : List (Addr × Obj)) (s : Shared) (σ : St) (H : Hp) (Q : VK), Inv X pins σ H s → t σ H Q →
    wpAny (model X.prog X.w) X.A (eval a X.env) (fun v s₁ => wpAny (model X.prog X.w) X.A (eval b X.env) (fun u s₂ => wpAny (model X.prog X.w) X.A (compareOp op v u) (EP X pins σ Q) X.xe s₂) X.xe s₁) X.xe s
theorem nobehind (b : Expr) {op : CmpOp} (h : op ≠ .In) (h2 : op ≠ .NotIn) : behindInMarks op b = false := by
  have e1 : (op == CmpOp.In) = false := by cases op <;> first | rfl | exact absurd rfl h
  have e2 : (op == CmpOp.NotIn) = false := by cases op <;> first | rfl | exact absurd rfl h2
  cases b <;> simp [behindInMarks, e1, e2]
def tCmp (p : Int → Int → Bool) (ta tb : TE) : TE := fun σ H Q => t2I ta tb (fun i j H2 => Q (.bl (p i j)) H2) σ H
abbrev tLt : TE → TE → TE := tCmp fun i j => decide (i < j)
abbrev tLe : TE → TE → TE := tCmp fun i j => decide (i ≤ j)
abbrev tGt : TE → TE → TE := tCmp fun i j => decide (j < i)
abbrev tGe : TE → TE → TE := tCmp fun i j => decide (j ≤ i)
abbrev tEqI : TE → TE → TE := tCmp fun i j => decide (i = j)
abbrev tNeI : TE → TE → TE := tCmp fun i j => !decide (i = j)
/-- a comparison of two ints, by its rule -/
theorem pc_int {op : CmpOp} {p : Int → Int → Bool} (ha : PE X a ta) (hb : PE X b tb)
    (rule : ∀ (i j : Int) (t u : Tok) (Q : Value → Shared → Prop) (s : Shared), Q (.bool (p i j)) s → wpAny (model X.prog X.w) X.A (compareOp op (.int i t) (.int j u)) Q X.xe s) : PC X op a b (tCmp p ta tb) := by
  intro pins s σ H Q I h
  refine bin ha hb I h fun v u s2 x y H2 I2 rx ry q => ?_
  obtain ⟨i, j, rfl, rfl, q⟩ := q
  obtain ⟨t, rfl⟩ := rx
  obtain ⟨t', rfl⟩ := ry
  exact rule i j t t' _ s2 ⟨.bl _, H2, I2, rfl, q⟩
theorem pc_lt (ha : PE X a ta) (hb : PE X b tb) : PC X .Lt a b (tLt ta tb) := pc_int ha hb fun _ _ _ _ _ _ h => lt_int h
theorem pc_le (ha : PE X a ta) (hb : PE X b tb) : PC X .LtE a b (tLe ta tb) := pc_int ha hb fun _ _ _ _ _ _ h => le_int h
theorem pc_gt (ha : PE X a ta) (hb : PE X b tb) : PC X .Gt a b (tGt ta tb) := pc_int ha hb fun _ _ _ _ _ _ h => gt_int h
theorem pc_ge (ha : PE X a ta) (hb : PE X b tb) : PC X .GtE a b (tGe ta tb) := pc_int ha hb fun _ _ _ _ _ _ h => ge_int h
theorem pc_eqI (ha : PE X a ta) (hb : PE X b tb) : PC X .Eq a b (tEqI ta tb) := pc_int ha hb fun _ _ _ _ _ _ h => eq_int (by rw [Bool.beq_eq_decide_eq]; exact h)
theorem pc_neI (ha : PE X a ta) (hb : PE X b tb) : PC X .NotEq a b (tNeI ta tb) := pc_int ha hb fun _ _ _ _ _ _ h => ne_int (by rw [bne, Bool.beq_eq_decide_eq]; exact h)
/-- is None -/
def tIsN (ta : TE) : TE := fun σ H Q => ta σ H fun x H1 => Q (.bl (decide (x = .non))) H1
def tNotN (ta : TE) : TE := fun σ H Q => ta σ H fun x H1 => Q (.bl (!decide (x = .non))) H1
theorem RelV.none_iff {x : V} {v : Value} (r : RelV x v) : (v == Value.none) = decide (x = .non) := by
  cases x with
  | non => cases r; rfl
  | bl _ => cases r; rfl
  | int _ => obtain ⟨t, rfl⟩ := r; rfl
  | str _ => obtain ⟨t, rfl⟩ := r; rfl
  | byt _ => obtain ⟨t, rfl⟩ := r; rfl
  | flt _ => obtain ⟨t, rfl⟩ := r; rfl
  | ref _ => cases r; rfl
  | ty _ => cases r; rfl
theorem pc_isN {j pos'} (ha : PE X a ta) : PC X .Is a (.Constant .none j pos') (tIsN ta) := by
  intro pins s σ H Q I h
  refine thn (ha pins s σ H _ I h) fun v s1 ⟨x, H1, I1, r1, q1⟩ => ?_
  exact Constant_none (is_none_gen ⟨.bl _, H1, I1, by rw [r1.none_iff]; rfl, q1⟩)
theorem pc_notN {j pos'} (ha : PE X a ta) : PC X .IsNot a (.Constant .none j pos') (tNotN ta) := by
  intro pins s σ H Q I h
  refine thn (ha pins s σ H _ I h) fun v s1 ⟨x, H1, I1, r1, q1⟩ => ?_
  exact Constant_none (isnot_none_gen ⟨.bl _, H1, I1, by rw [r1.none_iff]; rfl, q1⟩)
/-- a comparison as a value, as a test -/
def tB (t : TE) : TT := fun σ H Q => t σ H fun x H1 => ∃ c, x = .bl c ∧ Q c H1
theorem pe_cmp {op : CmpOp} {t : TE} (h : PC X op a b t) (h1 : behindInMarks op b = false := by first | exact nobehind _ (by decide) (by decide) | rfl) : PE X (.Compare a [op] [b] pos) t := fun pins s σ H Q I hw => wpAny_Compare1 (h pins s σ H Q I hw) h1
theorem pt_cmp {op : CmpOp} {t : TE} (h : PC X op a b t) (h1 : behindInMarks op b = false := by first | exact nobehind _ (by decide) (by decide) | rfl) : PT X (.Compare a [op] [b] pos) (tB t) := by
  intro pins s σ H Q I hw
  refine wpAny_isTrue_Compare1 (thn (h pins s σ H _ I hw) fun v s1 h1 => thn h1 fun u s2 h2 => thn h2 fun c s3 ⟨x, H1, I1, r1, q1⟩ => ?_) h1
  obtain ⟨d, rfl, q⟩ := q1
  cases r1
  exact wpAny_truthy_bool ⟨H1, I1, q⟩
/-- an expression whose value is a bool, as a test -/
theorem pt_val {e : Expr} {t : TE} (h : PE X e t) (he : ∀ whole, isTrue e X.env whole = (do let v ← whole; standAt e.pos; holding [v] (truthy v)) := by intro _; rfl) : PT X e (tB t) := by
  intro pins s σ H Q I hw
  refine isTrue_plain (thn (h pins s σ H _ I hw) fun v s1 ⟨x, H1, I1, r1, q1⟩ => ?_) (he _)
  obtain ⟨d, rfl, q⟩ := q1
  cases r1
  exact wpAny_truthy_bool ⟨H1, I1, q⟩

/-! ### and, or, not -/
variable {tA tB' : TT} {rest : List Expr}
def tAnd (t u : TT) : TT := fun σ H Q => t σ H fun c H1 => if c = true then u σ H1 Q else Q false H1
def tOr (t u : TT) : TT := fun σ H Q => t σ H fun c H1 => if c = true then Q true H1 else u σ H1 Q
def tNot (t : TT) : TT := fun σ H Q => t σ H fun c H1 => Q (!c) H1
theorem pw_and1 (ha : PT X a tA) : PW X (.BoolOp .And [a] pos) tA := by
  intro wh pins s σ H Q I h
  refine isTrue_and (thn (ha pins s σ H Q I h) fun c s1 e => ?_)
  cases c with
  | true => exact isTrue_and_nil e
  | false => exact e
theorem pw_or1 (ha : PT X a tA) : PW X (.BoolOp .Or [a] pos) tA := by
  intro wh pins s σ H Q I h
  refine isTrue_or (thn (ha pins s σ H Q I h) fun c s1 e => ?_)
  cases c with
  | false => exact isTrue_or_nil e
  | true => exact e
theorem pw_and (ha : PT X a tA) (hb : PW X (.BoolOp .And (b :: rest) pos) tB') : PW X (.BoolOp .And (a :: b :: rest) pos) (tAnd tA tB') := by
  intro wh pins s σ H Q I h
  refine isTrue_and (thn (ha pins s σ H _ I h) fun c s1 ⟨H1, I1, q1⟩ => ?_)
  cases c with
  | true => exact hb wh pins s1 σ H1 Q I1 q1
  | false => exact ⟨H1, I1, q1⟩
theorem pw_or (ha : PT X a tA) (hb : PW X (.BoolOp .Or (b :: rest) pos) tB') : PW X (.BoolOp .Or (a :: b :: rest) pos) (tOr tA tB') := by
  intro wh pins s σ H Q I h
  refine isTrue_or (thn (ha pins s σ H _ I h) fun c s1 ⟨H1, I1, q1⟩ => ?_)
  cases c with
  | true => exact ⟨H1, I1, q1⟩
  | false => exact hb wh pins s1 σ H1 Q I1 q1
theorem pt_not (ha : PT X a tA) : PT X (.UnaryOp .Not a pos) (tNot tA) := by
  intro pins s σ H Q I h
  exact isTrue_not (ha pins s σ H (fun c H1 => Q (!c) H1) I h)
/-- .. as values (bools) -/
def tAndV (ta tb : TE) : TE := fun σ H Q => ta σ H fun x H1 => ∃ c, x = .bl c ∧ if c = true then tb σ H1 Q else Q (.bl false) H1
def tOrV (ta tb : TE) : TE := fun σ H Q => ta σ H fun x H1 => ∃ c, x = .bl c ∧ if c = true then Q (.bl true) H1 else tb σ H1 Q
def tNotV (ta : TE) : TE := fun σ H Q => ta σ H fun x H1 => ∃ c, x = .bl c ∧ Q (.bl (!c)) H1
theorem pe_one {op} {t : TE} (h : PE X a t) : PE X (.BoolOp op [a] pos) t := fun pins s σ H Q I hw => BoolOp_one (h pins s σ H Q I hw)
theorem pe_and (ha : PE X a ta) (hb : PE X (.BoolOp .And (b :: rest) pos) tb) : PE X (.BoolOp .And (a :: b :: rest) pos) (tAndV ta tb) := by
  intro pins s σ H Q I h
  refine BoolOp_and (thn (ha pins s σ H _ I h) fun v s1 ⟨x, H1, I1, r1, q1⟩ => ?_)
  obtain ⟨c, rfl, q1⟩ := q1
  cases r1
  refine wpAny_truthy_bool ?_
  cases c with
  | true => exact hb pins s1 σ H1 Q I1 q1
  | false => exact ⟨.bl false, H1, I1, rfl, q1⟩
theorem pe_or (ha : PE X a ta) (hb : PE X (.BoolOp .Or (b :: rest) pos) tb) : PE X (.BoolOp .Or (a :: b :: rest) pos) (tOrV ta tb) := by
  intro pins s σ H Q I h
  refine BoolOp_or (thn (ha pins s σ H _ I h) fun v s1 ⟨x, H1, I1, r1, q1⟩ => ?_)
  obtain ⟨c, rfl, q1⟩ := q1
  cases r1
  refine wpAny_truthy_bool ?_
  cases c with
  | false => exact hb pins s1 σ H1 Q I1 q1
  | true => exact ⟨.bl true, H1, I1, rfl, q1⟩
theorem pe_not (ha : PE X a ta) : PE X (.UnaryOp .Not a pos) (tNotV ta) := by
  intro pins s σ H Q I h
  refine UnaryOp_ (thn (ha pins s σ H _ I h) fun v s1 ⟨x, H1, I1, r1, q1⟩ => ?_)
  obtain ⟨c, rfl, q1⟩ := q1
  cases r1
  exact not_of (wpAny_truthy_bool ⟨.bl (!c), H1, I1, rfl, q1⟩)
/-- a if t else b -/
def tIf (t : TT) (ta tb : TE) : TE := fun σ H Q => t σ H fun c H1 => if c = true then ta σ H1 Q else tb σ H1 Q
theorem pe_ifExp {c : Expr} (hc : PT X c tA) (ha : PE X a ta) (hb : PE X b tb) : PE X (.IfExp c a b pos) (tIf tA ta tb) := by
  intro pins s σ H Q I h
  refine wpAny_IfExp (thn (hc pins s σ H _ I h) fun d s1 ⟨H1, I1, q1⟩ => ?_)
  cases d with
  | true => exact ha pins s1 σ H1 Q I1 q1
  | false => exact hb pins s1 σ H1 Q I1 q1
end
end L2

namespace L2
open PySem PySem.Spec PyProof.Rows

/-! ### a list, a tuple that is read: tracked, frozen, or an object of the module -/
def SqL (K : PySem.W.Frag) (H : Hp) (a : Addr) (xs : List V) : Prop :=
  Rd H a (.lst xs) ∨
    ∃ (o : Obj) (its : Array Value) (n : Nat), K.lookup a = some o ∧ o.cls = .type "list" ∧ o.dict = none ∧ o.data = .seq its n ∧ its.size ≤ sizeLine ∧ Vals xs its.toList
def SqT (K : PySem.W.Frag) (H : Hp) (a : Addr) (xs : List V) : Prop :=
  Rd H a (.tup xs) ∨
    ∃ (o : Obj) (its : Array Value) (n : Nat), K.lookup a = some o ∧ o.cls = .type "tuple" ∧ o.data = .seq its n ∧ its.size ≤ sizeLine ∧ Vals xs its.toList
def absV : Value → Option V
  | .none => some .non
  | .bool b => some (.bl b)
  | .int i _ => some (.int i)
  | .str x _ => some (.str x)
  | .bytes b _ => some (.byt b)
  | .float b _ => some (.flt b)
  | .ref a => some (.ref a)
  | .type n => some (.ty n)
  | _ => none
theorem RelV.abs {x : V} {u : Value} (r : RelV x u) : absV u = some x := by
  cases x with
  | non => cases r; rfl
  | bl _ => cases r; rfl
  | int _ => obtain ⟨t, rfl⟩ := r; rfl
  | str _ => obtain ⟨t, rfl⟩ := r; rfl
  | byt _ => obtain ⟨t, rfl⟩ := r; rfl
  | flt _ => obtain ⟨t, rfl⟩ := r; rfl
  | ref _ => cases r; rfl
  | ty _ => cases r; rfl
theorem RelV.inj {x y : V} {u : Value} (r : RelV x u) (q : RelV y u) : x = y := Option.some.inj (r.abs.symm.trans q.abs)
theorem Vals.inj : ∀ {xs ys : List V} {us : List Value}, Vals xs us → Vals ys us → xs = ys
  | _, _, _, .nil, .nil => rfl
  | _, _, _, .cons r t, .cons r' t' => by rw [r.inj r', Vals.inj t t']
section
variable {X : Cx} {pins : List (Addr × Obj)} {σ : St} {H : Hp} {s : Shared} {a : Addr} {xs ys : List V}
theorem SqL.of {K : PySem.W.Frag} (h : H a = some (.lst xs)) : SqL K H a xs := .inl (.inl h)
theorem SqT.of {K : PySem.W.Frag} (h : H a = some (.tup xs)) : SqT K H a xs := .inl (.inl h)
theorem Inv.list (I : Inv X pins σ H s) (h : SqL X.K H a xs) : ∃ its : List Value, Vals xs its ∧ PlainL s.heap a its.toArray ∧ xs.length ≤ sizeLine := by
  rcases h with h | ⟨o, its, n, hk, hc, hd, hs, hz, r⟩
  · obtain ⟨z, its, n, r, e⟩ := h.ok I.hok
    exact ⟨its, r, ⟨_, n, e, rfl, rfl, rfl⟩, z⟩
  · refine ⟨its.toList, r, ⟨o, n, I.kIn a o hk, hc, hd, by simpa using hs⟩, ?_⟩
    have e := r.length
    simp only [Array.length_toList] at e
    omega
theorem Inv.tuple (I : Inv X pins σ H s) (h : SqT X.K H a xs) : ∃ its : List Value, Vals xs its ∧ IsTup s.heap a its.toArray ∧ xs.length ≤ sizeLine := by
  rcases h with h | ⟨o, its, n, hk, hc, hs, hz, r⟩
  · obtain ⟨z, its, r, p⟩ := h.ok I.hok
    exact ⟨its, r, p.1, z⟩
  · refine ⟨its.toList, r, ⟨o, I.kIn a o hk, hc, n, by simpa using hs⟩, ?_⟩
    have e := r.length
    simp only [Array.length_toList] at e
    omega
theorem Inv.list_inj (I : Inv X pins σ H s) (h : SqL X.K H a xs) (h' : SqL X.K H a ys) : xs = ys := by
  obtain ⟨its, r, ⟨o, n, e, _, _, d⟩, _⟩ := I.list h
  obtain ⟨its', r', ⟨o', n', e', _, _, d'⟩, _⟩ := I.list h'
  rw [e] at e'; cases e'
  rw [d] at d'
  injection d' with d1 _
  have : its = its' := by simpa using congrArg Array.toList d1
  subst this
  exact r.inj r'
theorem Inv.tuple_inj (I : Inv X pins σ H s) (h : SqT X.K H a xs) (h' : SqT X.K H a ys) : xs = ys := by
  obtain ⟨its, r, ⟨o, e, _, n, d⟩, _⟩ := I.tuple h
  obtain ⟨its', r', ⟨o', e', _, n', d'⟩, _⟩ := I.tuple h'
  rw [e] at e'; cases e'
  rw [d] at d'
  injection d' with d1 _
  have : its = its' := by simpa using congrArg Array.toList d1
  subst this
  exact r.inj r'
end

/-! ### another wish about exceptions -/
abbrev Cx.wish (X : Cx) (E : Value → Shared → Prop) : Cx := { X with xe := E }
/-- no exception leaves -/
abbrev Cx.nox (X : Cx) : Cx := X.wish fun _ _ => False
theorem Cx.Ok.wish {X : Cx} (ok : X.Ok) (E : Value → Shared → Prop) : (X.wish E).Ok :=
  ⟨ok.mod, ok.kind, ok.glob, ok.blt, ok.above, ok.inj, ok.has, ok.cab, ok.hd, ok.frames, ok.stk, ok.exf, ok.bs, ok.bsz, ok.noex, ok.exfs, ok.funs, ok.frf⟩
theorem Cx.Ok.unwish {X : Cx} {E : Value → Shared → Prop} (ok : (X.wish E).Ok) : X.Ok :=
  ⟨ok.mod, ok.kind, ok.glob, ok.blt, ok.above, ok.inj, ok.has, ok.cab, ok.hd, ok.frames, ok.stk, ok.exf, ok.bs, ok.bsz, ok.noex, ok.exfs, ok.funs, ok.frf⟩
section
variable {X : Cx} {pins : List (Addr × Obj)} {σ : St} {H : Hp} {s : Shared} {E : Value → Shared → Prop}
theorem Inv.wish (I : Inv X pins σ H s) (E : Value → Shared → Prop) : Inv (X.wish E) pins σ H s := ⟨I.ok.wish E, I.os, I.bare, I.base, I.loc, I.cell, I.free, I.freeC, I.pin, I.hok, I.len⟩
theorem Inv.unwish (I : Inv (X.wish E) pins σ H s) : Inv X pins σ H s := ⟨I.ok.unwish, I.os, I.bare, I.base, I.loc, I.cell, I.free, I.freeC, I.pin, I.hok, I.len⟩
theorem SP.unwish {D : Ends} {f : Flow} {s' : Shared} (h : SP (X.wish E) pins D f s') : SP X pins D f s' := by
  cases f with
  | next => obtain ⟨σ', H', I, q⟩ := h; exact ⟨σ', H', I.unwish, q⟩
  | brk => obtain ⟨σ', H', I, q⟩ := h; exact ⟨σ', H', I.unwish, q⟩
  | cont => obtain ⟨σ', H', I, q⟩ := h; exact ⟨σ', H', I.unwish, q⟩
  | ret u => obtain ⟨v, σ', H', I, r, q⟩ := h; exact ⟨v, σ', H', I.unwish, r, q⟩
theorem PE.nox {e : Expr} {t : TE} (h : PE X.nox e t) : PE X e t := fun pins s σ H Q I hw =>
  wpAny_mono (h pins s σ H Q (I.wish _) hw) (fun _ _ ⟨v, H', I', r, q⟩ => ⟨v, H', I'.unwish, r, q⟩) fun _ _ z => False.elim z
theorem PT.nox {e : Expr} {t : TT} (h : PT X.nox e t) : PT X e t := fun pins s σ H Q I hw =>
  wpAny_mono (h pins s σ H Q (I.wish _) hw) (fun _ _ ⟨H', I', q⟩ => ⟨H', I'.unwish, q⟩) fun _ _ z => False.elim z
theorem PSs.nox {st : List Stmt} {t : TS} (h : PSs X.nox st t) : PSs X st t := fun pins s σ H D I hw =>
  wpAny_mono (h pins s σ H D (I.wish _) hw) (fun _ _ q => q.unwish) fun _ _ z => False.elim z
end

/-! ### blocks and small statements -/
section
variable {X : Cx} {st : Stmt} {rest : List Stmt} {t u : TS} {e : Expr} {te : TE} {pos : Pos}
def tNext : TS := fun D σ H => D.nx σ H
def tSeq (t u : TS) : TS := fun D σ H => t { D with nx := u D } σ H
theorem pss_nil : PSs X [] tNext := fun _ _ σ H _ I h => wpAny_execs_nil ⟨σ, H, I, h⟩
theorem pss_cons (h1 : PS X st t) (h2 : PSs X rest u) : PSs X (st :: rest) (tSeq t u) := by
  intro pins s σ H D I h
  refine wpAny_execs_cons (thn (h1 pins s σ H { D with nx := u D } I h) fun f s1 q => ?_)
  cases f with
  | next =>
    obtain ⟨σ', H', I', q⟩ := q
    exact h2 pins s1 σ' H' D I' q
  | ret v => exact q
  | brk => exact q
  | cont => exact q
theorem pss_one (h1 : PS X st t) : PSs X [st] t := by
  intro pins s σ H D I h
  refine wpAny_execs_cons (thn (h1 pins s σ H D I h) fun f s1 q => ?_)
  cases f with
  | next => exact wpAny_execs_nil q
  | ret v => exact q
  | brk => exact q
  | cont => exact q
def tBreak : TS := fun D σ H => D.bk σ H
def tCont : TS := fun D σ H => D.ct σ H
theorem ps_pass : PS X (.Pass pos) tNext := fun _ _ σ H _ I h => wpAny_Pass ⟨σ, H, I, h⟩
theorem ps_break : PS X (.Break pos) tBreak := fun _ _ σ H _ I h => wpAny_Break ⟨σ, H, I, h⟩
theorem ps_continue : PS X (.Continue pos) tCont := fun _ _ σ H _ I h => wpAny_Continue ⟨σ, H, I, h⟩
/-- in a def's body nothing is shown -/
theorem Inv.quiet {pins : List (Addr × Obj)} {σ : St} {H : Hp} {s : Shared} (I : Inv X pins σ H s) : interactive X.env = false := by simp [interactive, I.ok.kind]
/-- a docstring -/
theorem ps_doc {x j pos pos'} : PS X (.Expr (.Constant (.str x) j pos) pos') tNext := fun _ s σ H _ I h => wpAny_Expr (Calls.Constant_str (show SP X _ _ .next { s with toks := s.toks + 1 } from ⟨σ, H, I.tok _, h⟩)) I.quiet
/-- an expression whose value is dropped -/
def tDrop (te : TE) : TS := fun D σ H => te σ H fun _ H1 => D.nx σ H1
theorem ps_expr (he : PE X e te) (hs : swapsWith e none pos.line X.env = pure false := by rfl) : PS X (.Expr e pos) (tDrop te) := by
  intro pins s σ H D I h
  exact wpAny_Expr_any (thn (he pins s σ H _ I h) fun v s1 ⟨x, H1, I1, r1, q1⟩ => ⟨σ, H1, I1, q1⟩) I.quiet hs
def tRet (te : TE) : TS := fun D σ H => te σ H D.rt
theorem ps_ret (he : PE X e te) : PS X (.Return (some e) pos) (tRet te) := by
  intro pins s σ H D I h
  exact wpAny_Return_some (thn (he pins s σ H _ I h) fun v s1 ⟨x, H1, I1, r1, q1⟩ => ⟨x, σ, H1, I1, r1, q1⟩)
def tRetN : TS := fun D _ H => D.rt .non H
theorem ps_retN : PS X (.Return none pos) tRetN := fun _ _ σ H _ I h => wpAny_Return_none ⟨.non, σ, H, I, rfl, h⟩
def tIfS (c : TT) (t u : TS) : TS := fun D σ H => c σ H fun b H1 => if b = true then t D σ H1 else u D σ H1
theorem ps_if {c : Expr} {a b : List Stmt} {tc : TT} (hc : PT X c tc) (ha : PSs X a t) (hb : PSs X b u) : PS X (.If c a b pos) (tIfS tc t u) := by
  intro pins s σ H D I h
  refine wpAny_If (thn (hc pins s σ H _ I h) fun d s1 ⟨H1, I1, q1⟩ => ?_)
  cases d with
  | true => exact ha pins s1 σ H1 D I1 q1
  | false => exact hb pins s1 σ H1 D I1 q1
/-- code that the proof never comes to -/
def tNever : TS := fun _ _ _ => False
theorem ps_never : PS X st tNever := fun _ _ _ _ _ _ h => h.elim
theorem pss_never {sts : List Stmt} : PSs X sts tNever := fun _ _ _ _ _ _ h => h.elim
end

/-! ### targets -/
abbrev TG := V → St → Hp → (St → Hp → Prop) → Prop
abbrev TGs := List V → St → Hp → (St → Hp → Prop) → Prop
def PG (X : Cx) (target : Expr) (t : TG) : Prop :=
  ∀ (pins : List (Addr × Obj)) (s : Shared) (σ : St) (H : Hp) (v : V) (u : Value) (Q : St → Hp → Prop), Inv X pins σ H s → RelV v u → t v σ H Q →
    wpAny (model X.prog X.w) X.A (assign target X.env u) (fun _ s' => ∃ σ' H', Inv X pins σ' H' s' ∧ Q σ' H') X.xe s
/-- several targets, one after another -/
def PGs (X : Cx) (ts : List Expr) (t : TGs) : Prop :=
  ∀ (pins : List (Addr × Obj)) (s : Shared) (σ : St) (H : Hp) (vs : List V) (us : List Value) (Q : St → Hp → Prop), Inv X pins σ H s → Vals vs us → t vs σ H Q →
    wpAny (model X.prog X.w) X.A (assignInOrder ((assignEach ts X.env).map (·.2)) us) (fun _ s' => ∃ σ' H', Inv X pins σ' H' s' ∧ Q σ' H') X.xe s
/-- o[i] = v, by values -/
abbrev TSet := V → V → V → Hp → (Hp → Prop) → Prop
def PSet (X : Cx) (t : TSet) : Prop :=
  ∀ (pins : List (Addr × Obj)) (s : Shared) (σ : St) (H : Hp) (o i v : V) (ov iv u : Value) (Q : Hp → Prop), Inv X pins σ H s → RelV o ov → RelV i iv → RelV v u → t o i v H Q →
    wpAny (model X.prog X.w) X.A (setItem ov iv u) (fun _ s' => ∃ H', Inv X pins σ H' s' ∧ Q H') X.xe s
/-- a op= b, by values -/
abbrev TIp := V → V → Hp → VK → Prop
def PIp (X : Cx) (op : Operator) (t : TIp) : Prop :=
  ∀ (pins : List (Addr × Obj)) (s : Shared) (σ : St) (H : Hp) (x y : V) (v u : Value) (Q : VK), Inv X pins σ H s → RelV x v → RelV y u → t x y H Q →
    wpAny (model X.prog X.w) X.A (inplaceOp op v u) (EP X pins σ Q) X.xe s
section
variable {X : Cx} {pos : Pos}
def gName (i : Nat) : TG := fun v σ H Q => Q (σ.set i (some v)) H
theorem pg_name {i : Nat} {x : Str} (hN : X.N.Nodup) (hi : X.N[i]? = some x) (hx : Loc X.env.scope x) (hf : X.fn x = true ∨ X.env.scope.names.lookup x = some .local := by first | exact .inl rfl | exact .inr rfl | assumption) : PG X (.Name x pos) (gName i) := by
  intro pins s σ H v u Q I r h
  exact wpAny_assign_Name (store_ok I hN hi hx r (fun s' I' => ⟨_, H, I', h⟩) hf)
def gNil : TGs := fun vs σ H Q => vs = [] ∧ Q σ H
def gCons (t : TG) (u : TGs) : TGs := fun vs σ H Q => ∃ v r, vs = v :: r ∧ t v σ H fun σ' H' => u r σ' H' Q
theorem pgs_nil : PGs X [] gNil := by
  intro pins s σ H vs us Q I r h
  obtain ⟨e, h⟩ := h
  subst e
  cases r
  exact assignInOrder_nil ⟨σ, H, I, h⟩
theorem pgs_cons {e : Expr} {es : List Expr} {t : TG} {u : TGs} (h1 : PG X e t) (h2 : PGs X es u)
    (hs : (assignEach (e :: es) X.env).map (·.2) = assign e X.env :: (assignEach es X.env).map (·.2) := by rfl) : PGs X (e :: es) (gCons t u) := by
  intro pins s σ H vs us Q I r h
  obtain ⟨v, vr, e1, h⟩ := h
  subst e1
  cases r with
  | cons r rr =>
    rw [hs]
    refine assignInOrder_cons (thn (h1 pins s σ H _ _ _ I r h) fun _ s1 ⟨σ1, H1, I1, q1⟩ => ?_)
    exact h2 pins s1 σ1 H1 _ _ Q I1 rr q1
/-- (a, b, ..) = a tuple of that length -/
def gTup (K : PySem.W.Frag) (n : Nat) (t : TGs) : TG := fun v σ H Q => ∃ a xs, v = .ref a ∧ SqT K H a xs ∧ xs.length = n ∧ t xs σ H Q
theorem pg_tup {es : List Expr} {k : Nat} {t : TGs} {n : Nat} (hc : X.calm = true) (h : PGs X es t)
    (hn : (assignEach es X.env).length = n := by rfl) (hst : (assignEach es X.env).findIdx? (·.1) = none := by rfl) : PG X (.Tuple es k pos) (gTup X.K n t) := by
  intro pins s σ H v u Q I r hw
  obtain ⟨a, xs, e1, hq, hl, hw⟩ := hw
  subst e1
  cases r
  obtain ⟨its, rv, ht, hz⟩ := I.tuple hq
  refine assign_Tuple_tuple (I.ok.hd hc) ht (by simp [hn, ← hl, rv.length]) hst fun h' hx => ?_
  have I1 : Inv X pins σ H { s with heap := h' } := I.kept (t' := s.toks) fun b o e => hx b o (Nat.ne_of_lt (Heap.lt_size e)) e
  exact h pins _ σ H xs _ Q I1 (by simpa using rv) hw
/-- o[i] = .. -/
def gSub (to ti : TE) (t : TSet) : TG := fun v σ H Q => to σ H fun o H1 => ti σ H1 fun i H2 => t o i v H2 fun H3 => Q σ H3
theorem pg_sub {o i : Expr} {to ti : TE} {t : TSet} (ho : PE X o to) (hi : PE X i ti) (hs : PSet X t)
    (ha : ∀ v, assign (.Subscript o i pos) X.env v = (do
      let ov ← holding [v] (eval o X.env)
      let iv ← holding [v, ov] (eval i X.env)
      standAt pos
      holding [v, ov, iv] (setItem ov iv v)
      release [v, ov, iv] []) := by intro _; rfl) : PG X (.Subscript o i pos) (gSub to ti t) := by
  intro pins s σ H v u Q I r h
  rw [ha]
  refine wpAny_bind (wpAny_holding (thn (ho pins s σ H _ I h) fun ov s1 ⟨x, H1, I1, r1, q1⟩ => ?_))
  refine wpAny_bind (wpAny_holding (thn (hi pins s1 σ H1 _ I1 q1) fun iv s2 ⟨y, H2, I2, r2, q2⟩ => ?_))
  refine wpAny_bind (wpAny_standAt (wpAny_bind (wpAny_holding (thn (hs pins s2 σ H2 x y v ov iv u _ I2 r1 r2 r q2) fun _ s3 ⟨H3, I3, q3⟩ => ?_))))
  exact wpAny_release ⟨σ, H3, I3, q3⟩
/-- target = value -/
def tAsg (te : TE) (g : TG) : TS := fun D σ H => te σ H fun x H1 => g x σ H1 D.nx
theorem ps_asg {tg e : Expr} {te : TE} {g : TG} (he : PE X e te) (hg : PG X tg g) (hs : swapsWithSole [tg] e pos.line X.env = pure false := by rfl) (hw : swappedStores [tg] e X.env = pure none := by rfl)
    (h1 : (assignEach [tg] X.env).map (·.2) = [assign tg X.env] := by rfl) : PS X (.Assign [tg] e pos) (tAsg te g) := by
  intro pins s σ H D I h
  refine wpAny_Assign_stores (thn (he pins s σ H _ I h) fun v s1 ⟨x, H1, I1, r1, q1⟩ => ?_) hs hw
  rw [h1]
  exact thn (hg pins s1 σ H1 x v _ I1 r1 q1) fun _ s2 q => q
/-- name = value -/
theorem ps_set {i : Nat} {x : Str} {e : Expr} {te : TE} {pos' : Pos} (hN : X.N.Nodup) (hi : X.N[i]? = some x) (hx : Loc X.env.scope x) (he : PE X e te) (hs : swapsWith e (some (.Name x pos')) pos.line X.env = pure false := by rfl) (hf : X.fn x = true ∨ X.env.scope.names.lookup x = some .local := by first | exact .inl rfl | exact .inr rfl | assumption) :
    PS X (.Assign [.Name x pos'] e pos) (tAsg te (gName i)) := by
  intro pins s σ H D I h
  refine wpAny_Assign_Name (thn (he pins s σ H _ I h) fun v s1 ⟨y, H1, I1, r1, q1⟩ => ?_) hs
  exact store_ok I1 hN hi hx r1 (fun s2 I2 => ⟨_, H1, I2, q1⟩) hf
/-- a, b = x, y with plain local names: stored from the right; the pair itself is not tracked (the opening rows as in PyProof/Rows/TupAssign.lean:23) -/
def tPar (i j : Nat) (ta : TA) : TS := fun D σ H => ta σ H fun vs H1 => ∃ v w, vs = [v, w] ∧ D.nx ((σ.set i (some v)).set j (some w)) H1
theorem ps_par {i j : Nat} {x y : Str} {a b : Expr} {ta : TA} {px py pt : Pos} {kt k2 pt2} (hc : X.calm = true) (hN : X.N.Nodup) (hi : X.N[i]? = some x) (hj : X.N[j]? = some y) (hij : i ≠ j)
    (hx : X.env.scope.names.lookup x = some .local) (hy : X.env.scope.names.lookup y = some .local) (ha : PA X [a, b] ta)
    (hw : swappedStores [.Tuple [.Name x px, .Name y py] kt pt] (.Tuple [a, b] k2 pt2) X.env = pure (some [x, y]))
    (hs : swapsWithSole [.Tuple [.Name x px, .Name y py] kt pt] (.Tuple [a, b] k2 pt2) pos.line X.env = pure false := by rfl) :
    PS X (.Assign [.Tuple [.Name x px, .Name y py] kt pt] (.Tuple [a, b] k2 pt2) pos) (tPar i j ta) := by
  intro pins s σ H D I h
  rw [exec_Assign_arm]
  refine wpAny_bind (wpAny_standAt ?_)
  rw [hs]
  refine wpAny_bind (wpAny_pure ?_)
  rw [if_neg (by decide)]
  refine wpAny_bind (Tuple_ (thn (ha _ pins s σ H _ I h) fun us s1 ⟨vs, H1, I1, r1, q1⟩ => ?_))
  obtain ⟨v, w, e1, q1⟩ := q1
  subst e1
  obtain ⟨u1, u2, rfl, rv, rw'⟩ : ∃ u1 u2, us = [u1, u2] ∧ RelV v u1 ∧ RelV w u2 := by
    cases r1 with
    | cons p q =>
      cases q with
      | cons p' q' =>
        cases q'
        exact ⟨_, _, rfl, p, p'⟩
  refine wpAny_newObj_type ?_ (by show 2 ≤ sizeLine; decide)
  have I2 : Inv X pins σ H1 { s1 with heap := s1.heap.push { cls := .type "tuple", data := .seq [u1, u2].toArray } } := I1.kept (t' := s1.toks) fun b o e => Heap.get?_push_of_some _ e
  rw [hw]
  refine wpAny_bind (wpAny_pure ?_)
  show wpAny (model X.prog X.w) X.A (do rule "assign.swapped-stores"; let items ← unpackItems (.ref s1.heap.objs.size) 2 none; assignInOrder [fun v => bindName X.env y v, fun v => bindName X.env x v] items.reverse; pure Flow.next) _ _ _
  refine wpAny_bind (wpAny_rule (wpAny_bind (unpackItems_tuple (items := #[u1, u2]) (I.ok.hd hc) (IsTup.new s1.heap _) fun h' hx' => ?_)))
  have I3 := I2.kept (h' := h') (t' := s1.toks) fun b o e => hx' b o (Nat.ne_of_lt (Heap.lt_size e)) e
  show wpAny _ _ (assignInOrder [fun v => bindName X.env y v, fun v => bindName X.env x v] [u2, u1] >>= fun _ => pure Flow.next) _ _ _
  refine wpAny_bind (assignInOrder_cons (wpAny_bindName (store_ok I3 hN hj (.inl hy) rw' (fun s2 I4 => ?_) (.inr hy))))
  refine assignInOrder_cons (wpAny_bindName (store_ok I4 hN hi (.inl hx) rv (fun s3 I5 => assignInOrder_nil (wpAny_pure ?_)) (.inr hx)))
  rw [List.set_comm _ _ (Ne.symm hij)] at I5
  exact ⟨_, H1, I5, q1⟩
/-- name op= e -/
def tAug (i : Nat) (te : TE) (ti : TIp) : TS := fun D σ H => ∃ x, σ[i]? = some (some x) ∧ te σ H fun y H1 => ti x y H1 fun z H2 => D.nx (σ.set i (some z)) H2
theorem ps_aug {i : Nat} {x : Str} {e : Expr} {te : TE} {op : Operator} {ti : TIp} {pos' : Pos} (hN : X.N.Nodup) (hi : X.N[i]? = some x) (hx : Loc X.env.scope x) (he : PE X e te) (ho : PIp X op ti) (hf : X.fn x = true ∨ X.env.scope.names.lookup x = some .local := by first | exact .inl rfl | exact .inr rfl | assumption) :
    PS X (.AugAssign (.Name x pos') op e pos) (tAug i te ti) := by
  intro pins s σ H D I h
  obtain ⟨v, e1, h⟩ := h
  obtain ⟨m, hn, hl⟩ := I.loc
  have vis : Vis X.env.scope x := by rcases hx with k | k; exact .inl k; exact .inr (.inl k)
  obtain ⟨u, r, l⟩ := hl i x v hi e1 vis
  refine wpAny_AugAssign_Name ?_
  have go : wpAny (model X.prog X.w) X.A (eval e X.env) (fun w s₂ => wpAny (model X.prog X.w) X.A (inplaceOp op u w) (fun r s₃ => wpAny (model X.prog X.w) X.A (storeName X.env x r) (fun _ => SP X pins D .next) X.xe s₃) X.xe s₂) X.xe s := by
    refine thn (he pins s σ H _ I h) fun w s1 ⟨y, H1, I1, r1, q1⟩ => ?_
    refine thn (ho pins s1 σ H1 v y u w _ I1 r r1 q1) fun z s2 ⟨zv, H2, I2, r2, q2⟩ => ?_
    exact store_ok I2 hN hi hx r2 (fun s3 I3 => ⟨_, H2, I3, q2⟩) hf
  rcases l with ⟨hk, hm⟩ | ⟨hk, c, hc, hcell⟩
  · exact wpAny_loadName_local I.ok.kind hk hn hm go
  · rcases hk with hk | hk
    · exact wpAny_loadName_cell I.ok.kind hk hc hcell go
    · rcases hx with k | k
      · have : X.env.scope.names.lookup x = some .free := hk
        rw [k] at this; cases this
      · have : X.env.scope.names.lookup x = some .free := hk
        rw [k] at this; cases this
/-- o[i] op= e -/
def tAugS (to ti te : TE) (tget : V → V → Hp → VK → Prop) (tip : TIp) (tset : TSet) : TS := fun D σ H => to σ H fun o H1 => ti σ H1 fun i H2 => tget o i H2 fun x H3 => te σ H3 fun y H4 => tip x y H4 fun z H5 => tset o i z H5 fun H6 => D.nx σ H6
/-- o[i], by values -/
def PGet (X : Cx) (t : V → V → Hp → VK → Prop) : Prop :=
  ∀ (pins : List (Addr × Obj)) (s : Shared) (σ : St) (H : Hp) (o i : V) (ov iv : Value) (Q : VK), Inv X pins σ H s → RelV o ov → RelV i iv → t o i H Q →
    wpAny (model X.prog X.w) X.A (getItem ov iv) (EP X pins σ Q) X.xe s
theorem ps_augS {o i e : Expr} {to ti te : TE} {tget : V → V → Hp → VK → Prop} {tip : TIp} {tset : TSet} {op : Operator} {tpos : Pos} (ho : PE X o to) (hi : PE X i ti) (hg : PGet X tget) (he : PE X e te) (hp : PIp X op tip) (hs : PSet X tset)
    (ha : ∀ ov iv new, augStore i ov iv new = (do holding [new, ov, iv] (setItem ov iv new); release [new, ov, iv] []; pure .next) := by intros; rfl) : PS X (.AugAssign (.Subscript o i tpos) op e pos) (tAugS to ti te tget tip tset) := by
  intro pins s σ H D I h
  refine wpAny_AugAssign_SubscriptAny (thn (ho pins s σ H _ I h) fun ov s1 ⟨x1, H1, I1, r1, q1⟩ => ?_) ha
  refine thn (hi pins s1 σ H1 _ I1 q1) fun iv s2 ⟨x2, H2, I2, r2, q2⟩ => ?_
  refine thn (hg pins s2 σ H2 x1 x2 ov iv _ I2 r1 r2 q2) fun old s3 ⟨x3, H3, I3, r3, q3⟩ => ?_
  refine thn (he pins s3 σ H3 _ I3 q3) fun v s4 ⟨x4, H4, I4, r4, q4⟩ => ?_
  refine thn (hp pins s4 σ H4 x3 x4 old v _ I4 r3 r4 q4) fun new s5 ⟨x5, H5, I5, r5, q5⟩ => ?_
  exact thn (hs pins s5 σ H5 x1 x2 x5 ov iv new _ I5 r1 r2 r5 q5) fun _ s6 ⟨H6, I6, q6⟩ => ⟨σ, H6, I6, q6⟩
/-- ints -/
def ipI (f : Int → Int → Int) : TIp := fun x y H Q => ∃ i j, x = .int i ∧ y = .int j ∧ Q (.int (f i j)) H
theorem ip_add : PIp X .Add (ipI fun i j => i + j) := by
  intro pins s σ H x y v u Q I r1 r2 h
  obtain ⟨i, j, e1, e2, q⟩ := h
  subst e1; subst e2
  obtain ⟨t, rfl⟩ := r1
  obtain ⟨t', rfl⟩ := r2
  exact iadd_int ⟨.int _, H, I.tok _, ⟨_, rfl⟩, q⟩
theorem ip_sub : PIp X .Sub (ipI fun i j => i - j) := by
  intro pins s σ H x y v u Q I r1 r2 h
  obtain ⟨i, j, e1, e2, q⟩ := h
  subst e1; subst e2
  obtain ⟨t, rfl⟩ := r1
  obtain ⟨t', rfl⟩ := r2
  exact isub_int ⟨.int _, H, I.tok _, ⟨_, rfl⟩, q⟩
end

/-! ### while -/
section
variable {X : Cx} {pos : Pos}
/-- the invariant W with its measure -/
def tWhile (c : TT) (tb : TS) : TS := fun D σ H => ∃ W : Nat → St → Hp → Prop, (∃ m, W m σ H) ∧ ∀ m σ H, W m σ H →
  c σ H fun b H1 => if b = true then ∃ N : St → Hp → Prop, (∀ σ' H', N σ' H' → ∃ m', m' < m ∧ W m' σ' H') ∧ tb { D with nx := N, ct := N, bk := D.nx } σ H1 else D.nx σ H1
theorem ps_while {c : Expr} {body : List Stmt} {tc : TT} {tb : TS} (hp : PassesOwn (model X.prog X.w) X.A X.env X.xe) (hc : PT X c tc) (hb : PSs X body tb) : PS X (.While c body [] pos) (tWhile tc tb) := by
  intro pins s σ H D I h
  obtain ⟨W, ⟨m0, w0⟩, turn⟩ := h
  refine wpAny_While (codeAny_whileLoop (fun n s' => ∃ σ' H', Inv X pins σ' H' s' ∧ W n σ' H') ?_ m0 ⟨σ, H, I, w0⟩)
  rintro n s1 ⟨σ1, H1, I1, w1⟩
  refine wpAny_passesOwn hp (thn (hc pins s1 σ1 H1 _ I1 (turn n σ1 H1 w1)) fun b s2 ⟨H2, I2, q2⟩ => ?_)
  cases b with
  | true =>
    obtain ⟨N, hN, q2⟩ := q2
    rw [if_pos rfl]
    refine wpAny_passesOwn hp (thn (hb pins s2 σ1 H2 _ I2 q2) fun f s3 q3 => ?_)
    cases f with
    | next =>
      obtain ⟨σ3, H3, I3, n3⟩ := q3
      obtain ⟨m', hm, w3⟩ := hN σ3 H3 n3
      exact ⟨m', hm, σ3, H3, I3, w3⟩
    | cont =>
      obtain ⟨σ3, H3, I3, n3⟩ := q3
      obtain ⟨m', hm, w3⟩ := hN σ3 H3 n3
      exact ⟨m', hm, σ3, H3, I3, w3⟩
    | brk => exact q3
    | ret v => exact q3
  | false =>
    rw [if_neg Bool.false_ne_true]
    exact wpAny_execs_nil ⟨σ1, H2, I2, q2⟩
end

/-! ### what a loop or a comprehension walks -/
/-- at turn i: it yields x (the heap may grow), or it stops -/
structure It where
  go : Nat → Hp → Prop
  yld : Nat → Hp → V → Hp → Prop
  stop : Nat → Hp → Prop
/-- the iterator's own objects may turn: they are not the frame's, not pinned, younger than the entry (or a comprehension's own) -/
def FpOk (X : Cx) (pins : List (Addr × Obj)) (H : Hp) (b : Addr) : Prop :=
  H b = none ∧ b ≠ X.env.locals ∧ b ∉ X.fs ∧ (b ∈ X.ex ∨ X.s₀.heap.objs.size ≤ b) ∧ (∀ x c, X.env.cells.lookup x = some c → c ≠ b) ∧ ∀ p ∈ X.pn ++ pins, p.1 ≠ b
theorem Inv.fpOk {X : Cx} {pins : List (Addr × Obj)} {σ : St} {H H' : Hp} {s : Shared} {b : Addr} (I : Inv X pins σ H s) (hb : s.heap.objs.size ≤ b) (hn : H' b = none) : FpOk X pins H' b := by
  refine ⟨hn, Nat.ne_of_gt (Nat.lt_of_lt_of_le I.lt hb), I.nofs hb, .inr (Nat.le_trans I.sz hb), fun x c e z => ?_, fun p hp z => ?_⟩
  · obtain ⟨v, q⟩ := I.cell x c e
    exact absurd (Nat.lt_of_lt_of_le q.lt (by rw [z]; exact hb)) (Nat.lt_irrefl _)
  · exact absurd (Nat.lt_of_lt_of_le (Heap.lt_size (I.pin p hp).1) (by rw [z]; exact hb)) (Nat.lt_irrefl _)
structure Turn (P : Program) (w : World) (K : PySem.W.Frag) (tg : Expr) (J : It) (fp : List Addr) (it : Addr) (tn : Nat → Heap → Prop) : Prop where
  mem : it ∈ fp
  obj : ∀ i h, tn i h → ∀ b ∈ fp, ∃ o, h.get? b = some o ∧ ∀ v, o.data ≠ .cell v
  keep : ∀ i h h', tn i h → (∀ b ∈ fp, ∀ o, h.get? b = some o → h'.get? b = some o) → tn i h'
  item : ∀ (X : Cx), X.prog = P → X.w = w → X.K = K → X.calm = true → ∀ (i : Nat) (pins : List (Addr × Obj)) (s : Shared) (σ : St) (H : Hp) (E : Value → Shared → Prop), Inv X pins σ H s → (∀ b ∈ fp, FpOk X pins H b) → tn i s.heap → J.go i H →
    wpAny (model P w) X.A (pyNext (.ref it)) (fun r s1 => ∃ u, r = some u ∧
      wpAny (model P w) X.A (letOwnedTupleGo tg (.ref it) u) (fun _ s2 => ∃ x H', Inv X pins σ H' s2 ∧ RelV x u ∧ J.yld i H x H' ∧ tn (i + 1) s2.heap ∧ ∀ b ∈ fp, H' b = none) E s1) E s
  done : ∀ (X : Cx), X.prog = P → X.w = w → X.K = K → X.calm = true → ∀ (i : Nat) (pins : List (Addr × Obj)) (s : Shared) (σ : St) (H : Hp) (E : Value → Shared → Prop), Inv X pins σ H s → (∀ b ∈ fp, FpOk X pins H b) → tn i s.heap → J.stop i H →
    wpAny (model P w) X.A (pyNext (.ref it)) (fun r s1 => r = none ∧ Inv X pins σ H s1) E s
  self : ∀ (A : Around) (i : Nat) (s : Shared) (Q : Value → Shared → Prop) (E : Value → Shared → Prop), tn i s.heap → Q (.ref it) s → wpAny (model P w) A (pyIter (.ref it)) Q E s
abbrev TI := St → Hp → (It → Hp → Prop) → Prop
/-- an iterator has come -/
def PIE (X : Cx) (pins : List (Addr × Obj)) (σ : St) (tg : Expr) (R : It → Hp → Prop) (itv : Value) (s2 : Shared) : Prop :=
  ∃ (it : Addr) (fp : List Addr) (tn : Nat → Heap → Prop) (J : It) (H' : Hp), itv = .ref it ∧ Inv X pins σ H' s2 ∧ Turn X.prog X.w X.K tg J fp it tn ∧ tn 0 s2.heap ∧ (∀ b ∈ fp, FpOk X pins H' b) ∧ R J H'
def PI (X : Cx) (tg iter : Expr) (wi : TI) : Prop :=
  ∀ (pins : List (Addr × Obj)) (s : Shared) (σ : St) (H : Hp) (R : It → Hp → Prop), Inv X pins σ H s → wi σ H R →
    wpAny (model X.prog X.w) X.A (eval iter X.env) (fun v s1 => wpAny (model X.prog X.w) X.A (pyIter v) (PIE X pins σ tg R) X.xe s1) X.xe s

/-- the step ahead of the store is nothing for an iterator that keeps no tuple -/
theorem go_of {M : Model} {A : Around} {E : Value → Shared → Prop} {s : Shared} {tg : Expr} {it : Addr} {u : Value} {o : Obj} {n : String} {vs : Array Value} {Q : Unit → Shared → Prop} (ho : s.heap.get? it = some o) (hc : o.cls = .type n) (hd : o.data = .fields vs)
    (hn : ["enumerate", "zip", "dict_itemiterator", "dict_reverseitemiterator", "odict_iterator", "itertools.zip_longest", "itertools.pairwise"].contains n = false) (hQ : Q () s) : wpAny M A (letOwnedTupleGo tg (.ref it) u) Q E s := by
  unfold letOwnedTupleGo
  cases tg <;> first
    | exact wpAny_pure hQ
    | (cases u <;> first
        | exact wpAny_pure hQ
        | (refine wpAny_bind (wpAny_load ho ?_)
           rw [hc, hd]
           show wpAny M A (if (["enumerate", "zip", "dict_itemiterator", "dict_reverseitemiterator", "odict_iterator", "itertools.zip_longest", "itertools.pairwise"].contains n && vs[0]? == some (rawInt _)) = true then _ else _) Q E s
           rw [if_neg (by intro h; rw [hn, Bool.false_and] at h; cases h)]
           exact wpAny_pure hQ))

/-- the list at a, as it stands at each turn (a loop may append to it) -/
def Itl (K : PySem.W.Frag) (a : Addr) : It :=
  ⟨fun i H => ∃ xs x, SqL K H a xs ∧ xs[i]? = some x, fun i H x H' => H' = H ∧ ∀ xs, SqL K H a xs → xs[i]? = some x, fun i H => ∃ xs, SqL K H a xs ∧ xs.length ≤ i⟩
def Itt (K : PySem.W.Frag) (a : Addr) : It :=
  ⟨fun i H => ∃ xs x, SqT K H a xs ∧ xs[i]? = some x, fun i H x H' => H' = H ∧ ∀ xs, SqT K H a xs → xs[i]? = some x, fun i H => ∃ xs, SqT K H a xs ∧ xs.length ≤ i⟩
/-- lo, lo + 1, .. (n of them) -/
def Itr (lo : Int) (n : Nat) : It := ⟨fun i _ => i < n, fun i H x H' => H' = H ∧ x = .int (lo + i), fun i _ => n ≤ i⟩
theorem turn_list {P : Program} {w : World} {K : PySem.W.Frag} {tg : Expr} (a it : Addr) : Turn P w K tg (Itl K a) [it] it (fun i h => h.IsListIter it a i) where
  mem := by simp
  obj := fun i h st b hb => by
    have e : b = it := by simpa using hb
    subst e
    obtain ⟨o, e, c, d⟩ := st
    exact ⟨o, e, fun v z => by rw [d] at z; cases z⟩
  keep := fun i h h' st k => st.at fun o e => k it (by simp) o e
  item := by
    intro X hP hw hK hc i pins s σ H E I hf st hg
    subst hP hw hK
    obtain ⟨xs, x, hq, hx⟩ := hg
    obtain ⟨its, rv, p, hz⟩ := I.list hq
    obtain ⟨u, hu, ru⟩ := rv.get hx
    obtain ⟨f0, f1, f2, f3, f4, f5⟩ := hf it (by simp)
    refine wpAny_pyNext_list_item st p.isList (x := u) (by simpa using hu) fun h' st' sb => ?_
    have I1 : Inv X pins σ H { s with heap := h' } := I.turned (t' := s.toks) (fun b o hb e => (sb.2 b hb).trans e) f0 f1 f3 f4 f5
    obtain ⟨o, e, c, d⟩ := id st'
    exact ⟨u, rfl, go_of (s := { s with heap := h' }) e c d (by decide) ⟨x, H, I1, ru, ⟨rfl, fun ys hy => by rw [I.list_inj hy hq]; exact hx⟩, st', fun b hb => (hf b hb).1⟩⟩
  done := by
    intro X hP hw hK hc i pins s σ H E I hf st hg
    subst hP hw hK
    obtain ⟨xs, hq, hx⟩ := hg
    obtain ⟨its, rv, p, hz⟩ := I.list hq
    obtain ⟨f0, f1, f2, f3, f4, f5⟩ := hf it (by simp)
    have hl := rv.length
    exact wpAny_pyNext_list_end (I.ok.hd hc) st p.isList (by simp; omega) fun h' eb => ⟨rfl, I.turned (t' := s.toks) (fun b o hb e => eb b o hb e) f0 f1 f3 f4 f5⟩
  self := fun _ _ _ _ _ st h => wpAny_pyIter_listiter st h
theorem turn_tuple {P : Program} {w : World} {K : PySem.W.Frag} {tg : Expr} (a it : Addr) : Turn P w K tg (Itt K a) [it] it (fun i h => h.IsTupleIter it a i) where
  mem := by simp
  obj := fun i h st b hb => by
    have e : b = it := by simpa using hb
    subst e
    obtain ⟨o, e, c, d⟩ := st
    exact ⟨o, e, fun v z => by rw [d] at z; cases z⟩
  keep := fun i h h' st k => st.at fun o e => k it (by simp) o e
  item := by
    intro X hP hw hK hc i pins s σ H E I hf st hg
    subst hP hw hK
    obtain ⟨xs, x, hq, hx⟩ := hg
    obtain ⟨its, rv, p, hz⟩ := I.tuple hq
    obtain ⟨u, hu, ru⟩ := rv.get hx
    obtain ⟨f0, f1, f2, f3, f4, f5⟩ := hf it (by simp)
    refine wpAny_pyNext_tuple_item st (show s.heap.IsTuple a its.toArray from p) (x := u) (by simpa using hu) fun h' st' sb => ?_
    have I1 : Inv X pins σ H { s with heap := h' } := I.turned (t' := s.toks) (fun b o hb e => (sb.2 b hb).trans e) f0 f1 f3 f4 f5
    obtain ⟨o, e, c, d⟩ := id st'
    exact ⟨u, rfl, go_of (s := { s with heap := h' }) e c d (by decide) ⟨x, H, I1, ru, ⟨rfl, fun ys hy => by rw [I.tuple_inj hy hq]; exact hx⟩, st', fun b hb => (hf b hb).1⟩⟩
  done := by
    intro X hP hw hK hc i pins s σ H E I hf st hg
    subst hP hw hK
    obtain ⟨xs, hq, hx⟩ := hg
    obtain ⟨its, rv, p, hz⟩ := I.tuple hq
    obtain ⟨f0, f1, f2, f3, f4, f5⟩ := hf it (by simp)
    have hl := rv.length
    exact wpAny_pyNext_tuple_end (I.ok.hd hc) st (show s.heap.IsTuple a its.toArray from p) (by simp; omega) fun h' eb => ⟨rfl, I.turned (t' := s.toks) (fun b o hb e => eb b o hb e) f0 f1 f3 f4 f5⟩
  self := fun _ _ _ _ _ st h => wpAny_pyIter_tupleiter st h
theorem turn_range {P : Program} {w : World} {K : PySem.W.Frag} {tg : Expr} (it : Addr) (lo : Int) (n : Nat) : Turn P w K tg (Itr lo n) [it] it (fun i h => IsRangeIter h it (lo + (i : Nat) * 1) ((n : Int) - (i : Nat)) 1) where
  mem := by simp
  obj := fun i h st b hb => by
    have e : b = it := by simpa using hb
    subst e
    exact ⟨_, st, fun v z => by
      have z' : Data.fields _ = Data.cell v := z
      cases z'⟩
  keep := fun i h h' st k => k it (by simp) _ st
  item := by
    intro X hP hw hK hc i pins s σ H E I hf st hg
    subst hP hw hK
    obtain ⟨f0, f1, f2, f3, f4, f5⟩ := hf it (by simp)
    have W := Walks.range (prog := X.prog) (w := X.w) (I.ok.hd hc) it lo 1 n
    refine W.item i s _ _ hg st fun v h' tk hv st' kk => ?_
    obtain ⟨t, rfl⟩ := hv
    have I1 : Inv X pins σ H { s with heap := h', toks := tk } := I.turned (fun b o hb e => kk b o (by simpa using hb) e) f0 f1 f3 f4 f5
    refine ⟨_, rfl, go_of (s := { s with heap := h', toks := tk }) (n := "range_iterator") st' rfl rfl (by decide) ⟨.int (lo + i), H, I1, ⟨t, ?_⟩, ⟨rfl, rfl⟩, st', fun b hb => (hf b hb).1⟩⟩
    rw [Int.mul_one]
  done := by
    intro X hP hw hK hc i pins s σ H E I hf st hg
    subst hP hw hK
    obtain ⟨f0, f1, f2, f3, f4, f5⟩ := hf it (by simp)
    exact wpAny_pyNext_range_end (I.ok.hd hc) st (by have : n ≤ i := hg; omega) fun h' eb => ⟨rfl, I.turned (t' := s.toks) (fun b o hb e => eb b o hb e) f0 f1 f3 f4 f5⟩
  self := fun _ _ _ _ _ st h => wpAny_pyIter_rangeiter st h
end L2

namespace L2
open PySem PySem.Spec PyProof.Rows
section
variable {X : Cx} {tg : Expr}
def iList (K : PySem.W.Frag) (tl : TE) : TI := fun σ H R => tl σ H fun x H1 => ∃ a, x = .ref a ∧ (∃ xs, SqL K H1 a xs) ∧ R (Itl K a) H1
def iTup (K : PySem.W.Frag) (tl : TE) : TI := fun σ H R => tl σ H fun x H1 => ∃ a, x = .ref a ∧ (∃ xs, SqT K H1 a xs) ∧ R (Itt K a) H1
theorem pi_list {l : Expr} {tl : TE} (hl : PE X l tl) : PI X tg l (iList X.K tl) := by
  intro pins s σ H R I h
  refine thn (hl pins s σ H _ I h) fun v s1 ⟨x, H1, I1, r1, q1⟩ => ?_
  obtain ⟨a, e, ⟨xs, hq⟩, q⟩ := q1
  subst e
  cases r1
  obtain ⟨its, rv, p, hz⟩ := I1.list hq
  refine wpAny_pyIter_list p.isList ?_
  refine ⟨s1.heap.objs.size, [s1.heap.objs.size], _, _, H1, rfl, I1.kept (t' := s1.toks) fun b o e => Heap.get?_push_of_some _ e, turn_list a _, ⟨_, Heap.get?_push_size _ rfl, rfl, rfl⟩, fun b hb => ?_, q⟩
  have e : b = s1.heap.objs.size := by simpa using hb
  subst e
  exact I1.fpOk (Nat.le_refl _) (I1.hok.fresh (Nat.le_refl _))
theorem pi_tup {l : Expr} {tl : TE} (hl : PE X l tl) : PI X tg l (iTup X.K tl) := by
  intro pins s σ H R I h
  refine thn (hl pins s σ H _ I h) fun v s1 ⟨x, H1, I1, r1, q1⟩ => ?_
  obtain ⟨a, e, ⟨xs, hq⟩, q⟩ := q1
  subst e
  cases r1
  obtain ⟨its, rv, p, hz⟩ := I1.tuple hq
  refine wpAny_pyIter_tuple (show s1.heap.IsTuple a its.toArray from p) ?_
  refine ⟨s1.heap.objs.size, [s1.heap.objs.size], _, _, H1, rfl, I1.kept (t' := s1.toks) fun b o e => Heap.get?_push_of_some _ e, turn_tuple a _, ⟨_, Heap.get?_push_size _ rfl, rfl, rfl⟩, fun b hb => ?_, q⟩
  have e : b = s1.heap.objs.size := by simpa using hb
  subst e
  exact I1.fpOk (Nat.le_refl _) (I1.hok.fresh (Nat.le_refl _))
/-- a range object just made, walked -/
theorem range_it {pins : List (Addr × Obj)} {σ : St} {H : Hp} {s : Shared} {R : It → Hp → Prop} {E : Value → Shared → Prop} {lo hi : Int} {t u v : Tok} {tk : Nat} (I : Inv X pins σ H s) (h1 : -(2 ^ 62) ≤ lo) (h2 : lo < 2 ^ 62) (h3 : -(2 ^ 62) ≤ hi) (h4 : hi < 2 ^ 62)
    (q : R (Itr lo (hi - lo).toNat) H) : wpAny (model X.prog X.w) X.A (pyIter (.ref s.heap.objs.size)) (PIE X pins σ tg R) E { s with heap := s.heap.push { cls := .type "range", data := .fields #[.int lo t, .int hi u, .int 1 v] }, toks := tk } := by
  refine wpAny_pyIter_range (IsRange.new ..) (small_one h1 h2 h3 h4) ?_
  have I1 : Inv X pins σ H { s with heap := s.heap.push { cls := .type "range", data := .fields #[.int lo t, .int hi u, .int 1 v] }, toks := tk } := I.kept fun b o e => Heap.get?_push_of_some _ e
  refine ⟨(s.heap.push { cls := .type "range", data := .fields #[.int lo t, .int hi u, .int 1 v] }).objs.size, [(s.heap.push { cls := .type "range", data := .fields #[.int lo t, .int hi u, .int 1 v] }).objs.size], _, _, H, rfl,
    I1.kept (t' := tk) fun b o e => Heap.get?_push_of_some _ e, turn_range _ lo (hi - lo).toNat, ?_, fun b hb => ?_, q⟩
  · have e1 : lo + ((0 : Nat) : Int) * 1 = lo := by simp
    have e2 : (((hi - lo).toNat : Nat) : Int) - ((0 : Nat) : Int) = Builtin.Range.rangeSize lo hi 1 := by rw [rangeSize_one]; split <;> omega
    show IsRangeIter _ _ (lo + ((0 : Nat) : Int) * 1) ((((hi - lo).toNat : Nat) : Int) - ((0 : Nat) : Int)) 1
    rw [e1, e2]
    exact Heap.get?_push_size _ rfl
  · have e : b = (s.heap.push { cls := .type "range", data := .fields #[.int lo t, .int hi u, .int 1 v] }).objs.size := by simpa using hb
    subst e
    exact I1.fpOk (Nat.le_refl _) (I1.hok.fresh (Nat.le_refl _))
def iRng1 (ta : TA) : TI := fun σ H R => ta σ H fun vs H1 => ∃ j : Int, vs = [.int j] ∧ -(2 ^ 62) ≤ j ∧ j < 2 ^ 62 ∧ R (Itr 0 j.toNat) H1
def iRng2 (ta : TA) : TI := fun σ H R => ta σ H fun vs H1 => ∃ i j : Int, vs = [.int i, .int j] ∧ (-(2 ^ 62) ≤ i ∧ i < 2 ^ 62 ∧ -(2 ^ 62) ≤ j ∧ j < 2 ^ 62) ∧ R (Itr i (j - i).toNat) H1
theorem pi_range1 {a : Expr} {ta : TA} {p pos : Pos} (hg : Gl X "range") (hm : X.mg "range" = none) (ha : PA X [a] ta) (hs : starEach [a] X.env = [(false, eval a X.env)] := by rfl) : PI X tg (.Call (.Name "range" p) [a] [] pos) (iRng1 ta) := by
  intro pins s σ H R I h
  refine Call_ (ld_blt I hg hm boot_range (PyProof.Rows.callWith_type1 (thn (ha pos pins s σ H _ I h) fun us s1 ⟨vs, H1, I1, r1, q1⟩ => ?_) hs rfl))
  obtain ⟨j, e, q1, q2, q⟩ := q1
  subst e
  cases r1 with
  | cons r rr =>
    cases rr
    obtain ⟨t, rfl⟩ := r
    exact call_range_1 (range_it I1 (by omega) (by omega) q1 q2 (by simpa using q))
theorem pi_range2 {a b : Expr} {ta : TA} {p pos : Pos} (hg : Gl X "range") (hm : X.mg "range" = none) (ha : PA X [a, b] ta) (hs : starEach [a, b] X.env = [(false, eval a X.env), (false, eval b X.env)] := by rfl) (hs2 : starEach [b] X.env = [(false, eval b X.env)] := by rfl) :
    PI X tg (.Call (.Name "range" p) [a, b] [] pos) (iRng2 ta) := by
  intro pins s σ H R I h
  refine Call_ (ld_blt I hg hm boot_range (PyProof.Rows.callWith_type1 (thn (ha pos pins s σ H _ I h) fun us s1 ⟨vs, H1, I1, r1, q1⟩ => ?_) (by rw [hs, hs2]) (by rw [hs2]; rfl)))
  obtain ⟨i, j, e, ⟨q1, q2, q3, q4⟩, q⟩ := q1
  subst e
  cases r1 with
  | cons r rr =>
    cases rr with
    | cons r' rr =>
      cases rr
      obtain ⟨t, rfl⟩ := r
      obtain ⟨t', rfl⟩ := r'
      exact call_range_2 (range_it I1 q1 q2 q3 q4 q)

/-! ### for -/
/-- W: the invariant by the turn and a measure; N: what the body is to reach -/
def tFor (wi : TI) (g : TG) (tb : TS) : TS := fun D σ H => wi σ H fun J H1 => ∃ W : Nat → Nat → St → Hp → Prop, (∃ m, W 0 m σ H1) ∧ ∀ i m σ H, W i m σ H →
  (J.stop i H ∧ D.nx σ H) ∨ (J.go i H ∧ ∃ N : St → Hp → Prop, (∀ σ' H', N σ' H' → ∃ m', m' < m ∧ W (i + 1) m' σ' H') ∧ ∀ x H', J.yld i H x H' → g x σ H' fun σ2 H2 => tb { D with nx := N, ct := N, bk := D.nx } σ2 H2)
/-- the records at fp as they stand -/
def pinsAt (fp : List Addr) (h : Heap) : List (Addr × Obj) := fp.filterMap fun b => (h.get? b).map fun o => (b, o)
theorem mem_pinsAt {fp : List Addr} {h : Heap} {b : Addr} {o : Obj} (hb : b ∈ fp) (e : h.get? b = some o) : (b, o) ∈ pinsAt fp h := List.mem_filterMap.mpr ⟨b, hb, by rw [e]; rfl⟩
theorem of_pinsAt {fp : List Addr} {h : Heap} {p : Addr × Obj} (hp : p ∈ pinsAt fp h) : p.1 ∈ fp ∧ h.get? p.1 = some p.2 := by
  obtain ⟨b, hb, e⟩ := List.mem_filterMap.mp hp
  cases q : h.get? b with
  | none => rw [q] at e; cases e
  | some o =>
    rw [q] at e
    have e' : (b, o) = p := Option.some.inj e
    subst e'
    exact ⟨hb, q⟩
theorem Inv.pinned {pins : List (Addr × Obj)} {σ : St} {H : Hp} {s : Shared} {fp : List Addr} (I : Inv X pins σ H s) (hf : ∀ b ∈ fp, FpOk X pins H b) (ho : ∀ b ∈ fp, ∃ o, s.heap.get? b = some o ∧ ∀ v, o.data ≠ .cell v) : Inv X (pins ++ pinsAt fp s.heap) σ H s :=
  I.pins_of fun p hp => (List.mem_append.mp hp).elim (fun z => I.pin p (List.mem_append_right _ z)) fun z => by
    obtain ⟨hb, e⟩ := of_pinsAt z
    obtain ⟨f0, f1, f2, _⟩ := hf p.1 hb
    obtain ⟨o, e', d⟩ := ho p.1 hb
    rw [e] at e'; cases e'
    exact ⟨e, f0, f1, f2, d⟩
theorem Inv.unpinned {pins pl : List (Addr × Obj)} {σ : St} {H : Hp} {s : Shared} (I : Inv X (pins ++ pl) σ H s) : Inv X pins σ H s := I.pins_of fun p hp => I.pin p (List.mem_append_right _ (List.mem_append_left _ hp))
theorem ps_for {iter : Expr} {body : List Stmt} {wi : TI} {g : TG} {tb : TS} {pos : Pos} (hp : PassesOwn (model X.prog X.w) X.A X.env X.xe) (hc : X.calm = true) (hi : PI X tg iter wi) (hg : PG X tg g) (hb : PSs X body tb)
    (hs : ∀ x, foldedSetIterable iter X.env x = pure x := by intro _; rfl) : PS X (.For tg iter body [] pos) (tFor wi g tb) := by
  intro pins s σ H D I h
  refine wpAny_For (thn (hi pins s σ H _ I h) fun v s1 h1 => thn h1 fun itv s2 h2 => ?_) hs
  obtain ⟨it, fp, tn, J, H2, e, I2, T, st2, f2, W, ⟨m0, w0⟩, turn⟩ := h2
  subst e
  -- what stays true of the iterator's objects through the loop
  have stat : ∀ {H' : Hp}, (∀ b ∈ fp, H' b = none) → ∀ b ∈ fp, FpOk X pins H' b := fun hn b hb => ⟨hn b hb, (f2 b hb).2⟩
  refine codeAny_forLoop_any (fun n s' => ∃ i σ' H', Inv X pins σ' H' s' ∧ tn i s'.heap ∧ (∀ b ∈ fp, H' b = none) ∧ W i n σ' H') ?_ m0 ⟨0, σ, H2, I2, st2, fun b hb => (f2 b hb).1, w0⟩
  rintro n s3 ⟨i, σ3, H3, I3, st3, fr3, w3⟩
  rcases turn i n σ3 H3 w3 with ⟨stop, qn⟩ | ⟨go, N, hN, step⟩
  · refine wpAny_passesOwn hp (thn (T.done X rfl rfl rfl hc i pins s3 σ3 H3 X.xe I3 (stat fr3) st3 stop) fun r s4 ⟨hr, I4⟩ => ?_)
    subst hr
    exact wpAny_execs_nil ⟨σ3, H3, I4, qn⟩
  · refine wpAny_passesOwn hp (thn (T.item X rfl rfl rfl hc i pins s3 σ3 H3 X.xe I3 (stat fr3) st3 go) fun r s4 ⟨u, hr, h4⟩ => ?_)
    subst hr
    refine wpAny_passesOwn hp (thn h4 fun _ s5 ⟨x, H5, I5, r5, y5, st5, fr5⟩ => ?_)
    have I5' := I5.pinned (stat fr5) (T.obj _ _ st5)
    refine wpAny_passesOwn hp (thn (hg _ s5 σ3 H5 x u _ I5' r5 (step x H5 y5)) fun _ s6 ⟨σ6, H6, I6, q6⟩ => ?_)
    refine wpAny_passesOwn hp (thn (hb _ s6 σ6 H6 _ I6 q6) fun f s7 q7 => ?_)
    have again : ∀ {σ7 : St} {H7 : Hp}, Inv X (pins ++ pinsAt fp s5.heap) σ7 H7 s7 → N σ7 H7 → ∃ m, m < n ∧ ∃ i σ' H', Inv X pins σ' H' s7 ∧ tn i s7.heap ∧ (∀ b ∈ fp, H' b = none) ∧ W i m σ' H' := fun {σ7 H7} I7 n7 => by
      obtain ⟨m', hm, w7⟩ := hN σ7 H7 n7
      refine ⟨m', hm, i + 1, σ7, H7, I7.unpinned, T.keep _ _ _ st5 fun b hb o e => (I7.pin (b, o) (List.mem_append_right _ (List.mem_append_right _ (mem_pinsAt hb e)))).1, fun b hb => ?_, w7⟩
      obtain ⟨o, e, d⟩ := T.obj _ _ st5 b hb
      exact (I7.pin (b, o) (List.mem_append_right _ (List.mem_append_right _ (mem_pinsAt hb e)))).2.1
    cases f with
    | next => obtain ⟨σ7, H7, I7, n7⟩ := q7; exact again I7 n7
    | cont => obtain ⟨σ7, H7, I7, n7⟩ := q7; exact again I7 n7
    | brk => obtain ⟨σ7, H7, I7, q7⟩ := q7; exact ⟨σ7, H7, I7.unpinned, q7⟩
    | ret v => obtain ⟨x7, σ7, H7, I7, r7, q7⟩ := q7; exact ⟨x7, σ7, H7, I7.unpinned, r7, q7⟩
end

/-! ### the forms one uses -/
/-- over a list that the body leaves as it is -/
theorem for_list {K : PySem.W.Frag} {a : Addr} {xs : List V} {g : TG} {tb : TS} {D : Ends} {σ : St} {H : Hp} (Pv : Nat → St → Hp → Prop) (h0 : Pv 0 σ H) (hl : ∀ i σ H, i ≤ xs.length → Pv i σ H → SqL K H a xs)
    (hs : ∀ i x σ H, xs[i]? = some x → Pv i σ H → g x σ H fun σ2 H2 => tb { D with nx := Pv (i + 1), ct := Pv (i + 1), bk := D.nx } σ2 H2) (hd : ∀ σ H, Pv xs.length σ H → D.nx σ H) :
    ∃ W : Nat → Nat → St → Hp → Prop, (∃ m, W 0 m σ H) ∧ ∀ i m σ H, W i m σ H →
      ((Itl K a).stop i H ∧ D.nx σ H) ∨ ((Itl K a).go i H ∧ ∃ N : St → Hp → Prop, (∀ σ' H', N σ' H' → ∃ m', m' < m ∧ W (i + 1) m' σ' H') ∧ ∀ x H', (Itl K a).yld i H x H' → g x σ H' fun σ2 H2 => tb { D with nx := N, ct := N, bk := D.nx } σ2 H2) := by
  refine ⟨fun i m σ H => m = xs.length - i ∧ i ≤ xs.length ∧ Pv i σ H, ⟨xs.length, by simp, Nat.zero_le _, h0⟩, ?_⟩
  rintro i m σ H ⟨rfl, hi, p⟩
  have q := hl i σ H hi p
  by_cases hlt : i < xs.length
  · refine .inr ⟨⟨xs, xs[i], q, by simp [hlt]⟩, Pv (i + 1), fun σ' H' p' => ⟨xs.length - (i + 1), by omega, rfl, hlt, p'⟩, fun x H' y => ?_⟩
    obtain ⟨e, y⟩ := y
    subst e
    exact hs i x σ _ (y xs q) p
  · have e : i = xs.length := by omega
    subst e
    exact .inl ⟨⟨xs, q, Nat.le_refl _⟩, hd σ H p⟩
theorem for_tup {K : PySem.W.Frag} {a : Addr} {xs : List V} {g : TG} {tb : TS} {D : Ends} {σ : St} {H : Hp} (Pv : Nat → St → Hp → Prop) (h0 : Pv 0 σ H) (hl : ∀ i σ H, i ≤ xs.length → Pv i σ H → SqT K H a xs)
    (hs : ∀ i x σ H, xs[i]? = some x → Pv i σ H → g x σ H fun σ2 H2 => tb { D with nx := Pv (i + 1), ct := Pv (i + 1), bk := D.nx } σ2 H2) (hd : ∀ σ H, Pv xs.length σ H → D.nx σ H) :
    ∃ W : Nat → Nat → St → Hp → Prop, (∃ m, W 0 m σ H) ∧ ∀ i m σ H, W i m σ H →
      ((Itt K a).stop i H ∧ D.nx σ H) ∨ ((Itt K a).go i H ∧ ∃ N : St → Hp → Prop, (∀ σ' H', N σ' H' → ∃ m', m' < m ∧ W (i + 1) m' σ' H') ∧ ∀ x H', (Itt K a).yld i H x H' → g x σ H' fun σ2 H2 => tb { D with nx := N, ct := N, bk := D.nx } σ2 H2) := by
  refine ⟨fun i m σ H => m = xs.length - i ∧ i ≤ xs.length ∧ Pv i σ H, ⟨xs.length, by simp, Nat.zero_le _, h0⟩, ?_⟩
  rintro i m σ H ⟨rfl, hi, p⟩
  have q := hl i σ H hi p
  by_cases hlt : i < xs.length
  · refine .inr ⟨⟨xs, xs[i], q, by simp [hlt]⟩, Pv (i + 1), fun σ' H' p' => ⟨xs.length - (i + 1), by omega, rfl, hlt, p'⟩, fun x H' y => ?_⟩
    obtain ⟨e, y⟩ := y
    subst e
    exact hs i x σ _ (y xs q) p
  · have e : i = xs.length := by omega
    subst e
    exact .inl ⟨⟨xs, q, Nat.le_refl _⟩, hd σ H p⟩
theorem for_range {lo : Int} {n : Nat} {g : TG} {tb : TS} {D : Ends} {σ : St} {H : Hp} (Pv : Nat → St → Hp → Prop) (h0 : Pv 0 σ H)
    (hs : ∀ i σ H, i < n → Pv i σ H → g (.int (lo + i)) σ H fun σ2 H2 => tb { D with nx := Pv (i + 1), ct := Pv (i + 1), bk := D.nx } σ2 H2) (hd : ∀ σ H, Pv n σ H → D.nx σ H) :
    ∃ W : Nat → Nat → St → Hp → Prop, (∃ m, W 0 m σ H) ∧ ∀ i m σ H, W i m σ H →
      ((Itr lo n).stop i H ∧ D.nx σ H) ∨ ((Itr lo n).go i H ∧ ∃ N : St → Hp → Prop, (∀ σ' H', N σ' H' → ∃ m', m' < m ∧ W (i + 1) m' σ' H') ∧ ∀ x H', (Itr lo n).yld i H x H' → g x σ H' fun σ2 H2 => tb { D with nx := N, ct := N, bk := D.nx } σ2 H2) := by
  refine ⟨fun i m σ H => m = n - i ∧ i ≤ n ∧ Pv i σ H, ⟨n, by simp, Nat.zero_le _, h0⟩, ?_⟩
  rintro i m σ H ⟨rfl, hi, p⟩
  by_cases hlt : i < n
  · refine .inr ⟨hlt, Pv (i + 1), fun σ' H' p' => ⟨n - (i + 1), by omega, rfl, hlt, p'⟩, fun x H' y => ?_⟩
    obtain ⟨e, y⟩ := y
    subst e y
    exact hs i σ _ hlt p
  · have e : i = n := by omega
    subst e
    exact .inl ⟨Nat.le_refl _, hd σ H p⟩
/-- while, by a word and a measure of the state -/
theorem while_by {c : TT} {tb : TS} {D : Ends} {σ : St} {H : Hp} (Pv : St → Hp → Prop) (μ : St → Hp → Nat) (h0 : Pv σ H)
    (hs : ∀ σ H, Pv σ H → c σ H fun b H1 => if b = true then tb { D with nx := fun σ' H' => Pv σ' H' ∧ μ σ' H' < μ σ H, ct := fun σ' H' => Pv σ' H' ∧ μ σ' H' < μ σ H, bk := D.nx } σ H1 else D.nx σ H1)
    (mono : ∀ σ H Q Q', (∀ b H1, Q b H1 → Q' b H1) → c σ H Q → c σ H Q') : tWhile c tb D σ H := by
  refine ⟨fun m σ H => m = μ σ H ∧ Pv σ H, ⟨_, rfl, h0⟩, ?_⟩
  rintro m σ H ⟨rfl, p⟩
  refine mono σ H _ _ (fun b H1 q => ?_) (hs σ H p)
  cases b with
  | true => exact ⟨_, fun σ' H' ⟨p', l⟩ => ⟨_, l, rfl, p'⟩, q⟩
  | false => exact q
end L2

namespace L2
open PySem PySem.Spec PyProof.Rows

abbrev R2 := V → V → Hp → VK → Prop
/-- a two-place operation on values: f is binaryOp op, inplaceOp op or compareOp op -/
def OpR (X : Cx) (f : Value → Value → Sem Value) (r : R2) : Prop :=
  ∀ (pins : List (Addr × Obj)) (s : Shared) (σ : St) (H : Hp) (x y : V) (v u : Value) (Q : VK), Inv X pins σ H s → RelV x v → RelV y u → r x y H Q →
    wpAny (model X.prog X.w) X.A (f v u) (EP X pins σ Q) X.xe s
/-- a one-place operation -/
def UnR (X : Cx) (f : Value → Sem Value) (r : V → Hp → VK → Prop) : Prop :=
  ∀ (pins : List (Addr × Obj)) (s : Shared) (σ : St) (H : Hp) (x : V) (v : Value) (Q : VK), Inv X pins σ H s → RelV x v → r x H Q →
    wpAny (model X.prog X.w) X.A (f v) (EP X pins σ Q) X.xe s
/-- a call of a value that is known (a builtin, a type) with values -/
def CallR (X : Cx) (f : Value) (r : List V → Hp → VK → Prop) : Prop :=
  ∀ (pins : List (Addr × Obj)) (s : Shared) (σ : St) (H : Hp) (xs : List V) (us : List Value) (Q : VK), Inv X pins σ H s → Vals xs us → r xs H Q →
    wpAny (model X.prog X.w) X.A (call f us) (EP X pins σ Q) X.xe s
/-- a value's truth -/
def TruR (X : Cx) (r : V → Hp → (Bool → Hp → Prop) → Prop) : Prop :=
  ∀ (pins : List (Addr × Obj)) (s : Shared) (σ : St) (H : Hp) (x : V) (v : Value) (Q : Bool → Hp → Prop), Inv X pins σ H s → RelV x v → r x H Q →
    wpAny (model X.prog X.w) X.A (truthy v) (TP X pins σ Q) X.xe s

def tOp (r : R2) (ta tb : TE) : TE := fun σ H Q => ta σ H fun x H1 => tb σ H1 fun y H2 => r x y H2 Q
def tUn (r : V → Hp → VK → Prop) (ta : TE) : TE := fun σ H Q => ta σ H fun x H1 => r x H1 Q
/-- ints in, under C, and a value out -/
def rI (C : Int → Int → Prop) (g : Int → Int → V) : R2 := fun x y H Q => ∃ i j, x = .int i ∧ y = .int j ∧ C i j ∧ Q (g i j) H
def rI0 (g : Int → Int → V) : R2 := fun x y H Q => ∃ i j, x = .int i ∧ y = .int j ∧ Q (g i j) H
def rU (g : Int → V) : V → Hp → VK → Prop := fun x H Q => ∃ i, x = .int i ∧ Q (g i) H

section
variable {X : Cx} {a b c : Expr} {ta tb tc : TE} {pos : Pos}

theorem binT (ha : PE X a ta) (hb : PE X b tb) {pins : List (Addr × Obj)} {s : Shared} {σ : St} {H : Hp} {R : V → V → Hp → Prop} (I : Inv X pins σ H s)
    (h : ta σ H fun x H1 => tb σ H1 fun y H2 => R x y H2) {Q : Value → Shared → Prop} {f : Value → Value → Sem Value}
    (hf : ∀ v u s2 x y H2, Inv X pins σ H2 s2 → RelV x v → RelV y u → R x y H2 → wpAny (model X.prog X.w) X.A (f v u) Q X.xe s2) :
    wpAny (model X.prog X.w) X.A (eval a X.env) (fun v s₁ => wpAny (model X.prog X.w) X.A (eval b X.env) (fun u s₂ => wpAny (model X.prog X.w) X.A (f v u) Q X.xe s₂) X.xe s₁) X.xe s := by
  refine thn (ha pins s σ H _ I h) fun v s1 ⟨x, H1, I1, r1, q1⟩ => ?_
  refine thn (hb pins s1 σ H1 _ I1 q1) fun u s2 ⟨y, H2, I2, r2, q2⟩ => ?_
  exact hf v u s2 x y H2 I2 r1 r2 q2

theorem pe_op {op : Operator} {r : R2} (ho : OpR X (binaryOp op) r) (ha : PE X a ta) (hb : PE X b tb) : PE X (.BinOp a op b pos) (tOp r ta tb) := by
  intro pins s σ H Q I h
  exact wpAny_BinOp (binT ha hb I h fun v u s2 x y H2 I2 rx ry q => ho pins s2 σ H2 x y v u Q I2 rx ry q)
theorem pe_un {op : UnaryOp} {r : V → Hp → VK → Prop} (ho : UnR X (unaryOp op) r) (ha : PE X a ta) : PE X (.UnaryOp op a pos) (tUn r ta) := by
  intro pins s σ H Q I h
  exact UnaryOp_ (thn (ha pins s σ H _ I h) fun v s1 ⟨x, H1, I1, r1, q1⟩ => ho pins s1 σ H1 x v Q I1 r1 q1)
/-- a op= e at a name: the name's slot i -/
theorem augR {op : Operator} {r : R2} (ho : OpR X (inplaceOp op) r) {pins : List (Addr × Obj)} {s : Shared} {σ : St} {H : Hp} {x y : V} {v u : Value} {Q : VK} (I : Inv X pins σ H s)
    (rx : RelV x v) (ry : RelV y u) (q : r x y H Q) : wpAny (model X.prog X.w) X.A (inplaceOp op v u) (EP X pins σ Q) X.xe s := ho pins s σ H x y v u Q I rx ry q

/-! ### ints -/
theorem opI {f : Value → Value → Sem Value} {C : Int → Int → Prop} {g : Int → Int → Int}
    (rule : ∀ (i j : Int) (t u : Tok) (s : Shared) (Q : Value → Shared → Prop) (E : Value → Shared → Prop), C i j → Q (.int (g i j) s.toks) { s with toks := s.toks + 1 } → wpAny (model X.prog X.w) X.A (f (.int i t) (.int j u)) Q E s) :
    OpR X f (rI C fun i j => .int (g i j)) := by
  intro pins s σ H x y v u Q I rx ry h
  obtain ⟨i, j, rfl, rfl, hc, q⟩ := h
  obtain ⟨t, rfl⟩ := rx
  obtain ⟨t', rfl⟩ := ry
  exact rule i j t t' s _ _ hc ⟨.int (g i j), H, I.tok _, ⟨_, rfl⟩, q⟩
theorem opI0 {f : Value → Value → Sem Value} {g : Int → Int → Int}
    (rule : ∀ (i j : Int) (t u : Tok) (s : Shared) (Q : Value → Shared → Prop) (E : Value → Shared → Prop), Q (.int (g i j) s.toks) { s with toks := s.toks + 1 } → wpAny (model X.prog X.w) X.A (f (.int i t) (.int j u)) Q E s) :
    OpR X f (rI0 fun i j => .int (g i j)) := by
  intro pins s σ H x y v u Q I rx ry h
  obtain ⟨i, j, rfl, rfl, q⟩ := h
  obtain ⟨t, rfl⟩ := rx
  obtain ⟨t', rfl⟩ := ry
  exact rule i j t t' s _ _ ⟨.int (g i j), H, I.tok _, ⟨_, rfl⟩, q⟩
theorem opB0 {f : Value → Value → Sem Value} {g : Int → Int → Bool}
    (rule : ∀ (i j : Int) (t u : Tok) (s : Shared) (Q : Value → Shared → Prop) (E : Value → Shared → Prop), Q (.bool (g i j)) s → wpAny (model X.prog X.w) X.A (f (.int i t) (.int j u)) Q E s) :
    OpR X f (rI0 fun i j => .bl (g i j)) := by
  intro pins s σ H x y v u Q I rx ry h
  obtain ⟨i, j, rfl, rfl, q⟩ := h
  obtain ⟨t, rfl⟩ := rx
  obtain ⟨t', rfl⟩ := ry
  exact rule i j t t' s _ _ ⟨.bl (g i j), H, I, rfl, q⟩

def CDiv (i j : Int) : Prop := 0 < j ∧ j < 1073741824
def CDivN (i j : Int) : Prop := j ≠ 0 ∧ j.natAbs < 1073741824
def CPow (i j : Int) : Prop := 0 ≤ j ∧ j ≤ 1000000 ∧ i.natAbs < 2 ^ 64
def CMul (i j : Int) : Prop := (-(2 ^ 64) < i ∧ i < 2 ^ 64) ∨ (-(2 ^ 64) < j ∧ j < 2 ^ 64)
theorem CMul.ok {i j : Int} (h : CMul i j) : IntMulOk i j := by
  rcases h with ⟨h1, h2⟩ | ⟨h1, h2⟩
  · exact .of_left (intBits_le_64 h1 h2)
  · exact .of_right (intBits_le_64 h1 h2)
theorem two_pow_nn (k : Nat) : (0 : Int) ≤ 2 ^ k := by
  rw [two_pow_cast]
  exact Int.natCast_nonneg _

theorem op_add : OpR X (binaryOp .Add) (rI0 fun i j => .int (i + j)) := opI0 fun _ _ _ _ _ _ _ q => add_int q
theorem op_sub : OpR X (binaryOp .Sub) (rI0 fun i j => .int (i - j)) := opI0 fun _ _ _ _ _ _ _ q => sub_int q
theorem op_mul : OpR X (binaryOp .Mult) (rI CMul fun i j => .int (i * j)) := opI fun _ _ _ _ _ _ _ hc q => mul_int q hc.ok
/-- // by a positive divisor -/
theorem op_fdiv : OpR X (binaryOp .FloorDiv) (rI CDiv fun i j => .int (i / j)) := opI fun i j _ _ _ _ _ hc q => by
  have h1 : (0 : Int) < j := hc.1
  have h2 : j < 1073741824 := hc.2
  exact floordiv_int (by omega) (by rw [Int.fdiv_eq_ediv_of_nonneg i (by omega)]; exact q) (.inl (PyProof.noPylong_small (by omega)))
theorem op_fdivN : OpR X (binaryOp .FloorDiv) (rI CDivN fun i j => .int (i.fdiv j)) := opI fun _ _ _ _ _ _ _ hc q => floordiv_int hc.1 q (.inl (PyProof.noPylong_small hc.2))
/-- % by a positive divisor of any size -/
theorem op_mod : OpR X (binaryOp .Mod) (rI (fun _ j => 0 < j) fun i j => .int (i % j)) := opI fun i j _ _ _ _ _ hc q => by
  have h1 : (0 : Int) < j := hc
  exact mod_int' (by omega) (by rw [Int.fmod_eq_emod_of_nonneg i (by omega)]; exact q)
theorem op_modN : OpR X (binaryOp .Mod) (rI (fun _ j => j ≠ 0) fun i j => .int (i.fmod j)) := opI fun _ _ _ _ _ _ _ hc q => mod_int' hc q
theorem op_pow : OpR X (binaryOp .Pow) (rI CPow fun i j => .int (i ^ j.toNat)) := opI fun _ _ _ _ _ _ _ hc q => pow_int_small hc.1 hc.2.1 hc.2.2 q
theorem op_shl : OpR X (binaryOp .LShift) (rI CPow fun i j => .int (i * 2 ^ j.toNat)) := opI fun _ _ _ _ _ _ _ hc q => lshift_int_small hc.1 hc.2.1 hc.2.2 q
theorem op_shr : OpR X (binaryOp .RShift) (rI (fun _ j => 0 ≤ j) fun i j => .int (i / 2 ^ j.toNat)) := opI fun i j _ _ _ _ _ hc q =>
  rshift_int hc (by rw [Int.fdiv_eq_ediv_of_nonneg i (two_pow_nn _)]; exact q)
theorem op_and : OpR X (binaryOp .BitAnd) (rI0 fun i j => .int (Builtin.bitAnd i j)) := opI0 fun _ _ _ _ _ _ _ q => and_int q
theorem op_or : OpR X (binaryOp .BitOr) (rI0 fun i j => .int (Builtin.bitOr i j)) := opI0 fun _ _ _ _ _ _ _ q => or_int q
theorem op_xor : OpR X (binaryOp .BitXor) (rI0 fun i j => .int (Builtin.bitXor i j)) := opI0 fun _ _ _ _ _ _ _ q => xor_int q

theorem iop_add : OpR X (inplaceOp .Add) (rI0 fun i j => .int (i + j)) := opI0 fun _ _ _ _ _ _ _ q => iadd_int q
theorem iop_sub : OpR X (inplaceOp .Sub) (rI0 fun i j => .int (i - j)) := opI0 fun _ _ _ _ _ _ _ q => isub_int q
theorem iop_mul : OpR X (inplaceOp .Mult) (rI CMul fun i j => .int (i * j)) := opI fun _ _ _ _ _ _ _ hc q => imul_int q hc.ok
theorem iop_fdiv : OpR X (inplaceOp .FloorDiv) (rI CDiv fun i j => .int (i / j)) := opI fun i j _ _ _ _ _ hc q => by
  have h1 : (0 : Int) < j := hc.1
  have h2 : j < 1073741824 := hc.2
  exact ifloordiv_int (by omega) (by rw [Int.fdiv_eq_ediv_of_nonneg i (by omega)]; exact q) (.inl (PyProof.noPylong_small (by omega)))
theorem iop_mod : OpR X (inplaceOp .Mod) (rI (fun _ j => 0 < j) fun i j => .int (i % j)) := opI fun i j _ _ _ _ _ hc q => by
  have h1 : (0 : Int) < j := hc
  exact imod_int (by omega) (by rw [Int.fmod_eq_emod_of_nonneg i (by omega)]; exact q)
theorem iop_shl : OpR X (inplaceOp .LShift) (rI CPow fun i j => .int (i * 2 ^ j.toNat)) := opI fun _ _ _ _ _ _ _ hc q => ilshift_int_small hc.1 hc.2.1 hc.2.2 q
theorem iop_shr : OpR X (inplaceOp .RShift) (rI (fun _ j => 0 ≤ j) fun i j => .int (i / 2 ^ j.toNat)) := opI fun i j _ _ _ _ _ hc q =>
  irshift_int hc (by rw [Int.fdiv_eq_ediv_of_nonneg i (two_pow_nn _)]; exact q)
theorem iop_and : OpR X (inplaceOp .BitAnd) (rI0 fun i j => .int (Builtin.bitAnd i j)) := opI0 fun _ _ _ _ _ _ _ q => iand_int q
theorem iop_or : OpR X (inplaceOp .BitOr) (rI0 fun i j => .int (Builtin.bitOr i j)) := opI0 fun _ _ _ _ _ _ _ q => ior_int q
theorem iop_xor : OpR X (inplaceOp .BitXor) (rI0 fun i j => .int (Builtin.bitXor i j)) := opI0 fun _ _ _ _ _ _ _ q => ixor_int q

theorem unI {f : Value → Sem Value} {g : Int → Int}
    (rule : ∀ (i : Int) (t : Tok) (s : Shared) (Q : Value → Shared → Prop) (E : Value → Shared → Prop), Q (.int (g i) s.toks) { s with toks := s.toks + 1 } → wpAny (model X.prog X.w) X.A (f (.int i t)) Q E s) :
    UnR X f (rU fun i => .int (g i)) := by
  intro pins s σ H x v Q I rx h
  obtain ⟨i, rfl, q⟩ := h
  obtain ⟨t, rfl⟩ := rx
  exact rule i t s _ _ ⟨.int (g i), H, I.tok _, ⟨_, rfl⟩, q⟩
theorem un_neg : UnR X (unaryOp .USub) (rU fun i => .int (-i)) := unI fun _ _ _ _ _ q => neg_int q
theorem un_inv : UnR X (unaryOp .Invert) (rU fun i => .int (Builtin.bitNot i)) := unI fun _ _ _ _ _ q => invert_int q

/-! ### bools among ints: n += (a < b) -/
theorem op_add_ib : OpR X (binaryOp .Add) (fun x y H Q => ∃ i k, x = .int i ∧ y = .bl k ∧ Q (.int (i + b2i k)) H) := by
  intro pins s σ H x y v u Q I rx ry h
  obtain ⟨i, k, rfl, rfl, q⟩ := h
  obtain ⟨t, rfl⟩ := rx
  cases ry
  exact add_int_bool ⟨.int (i + b2i k), H, I.tok _, ⟨_, rfl⟩, q⟩
end

/-! ### comparisons -/
/-- the scalars that == tells apart as data does -/
def scal : V → V → Bool
  | .non, .non => true | .non, .int _ => true | .int _, .non => true | .non, .bl _ => true | .bl _, .non => true | .non, .str _ => true | .str _, .non => true
  | .int _, .int _ => true | .bl _, .bl _ => true | .str _, .str _ => true | .byt _, .byt _ => true
  | .int _, .str _ => true | .str _, .int _ => true | .bl _, .str _ => true | .str _, .bl _ => true
  | _, _ => false
def rEq : R2 := fun x y H Q => scal x y = true ∧ Q (.bl (decide (x = y))) H
def rNe : R2 := fun x y H Q => scal x y = true ∧ Q (.bl (!decide (x = y))) H

theorem dec_int {i j : Int} : decide (V.int i = V.int j) = (i == j) := by
  rw [Bool.eq_iff_iff]
  simp
theorem dec_bl {i j : Bool} : decide (V.bl i = V.bl j) = (i == j) := by
  rw [Bool.eq_iff_iff]
  simp
theorem dec_str {i j : Str} : decide (V.str i = V.str j) = (i == j) := by
  rw [Bool.eq_iff_iff]
  simp
theorem dec_byt {i j : Array UInt8} : decide (V.byt i = V.byt j) = (i.toList == j.toList) := by
  rw [Bool.eq_iff_iff]
  cases i
  cases j
  simp

section
variable {X : Cx} {a b c : Expr} {ta tb tc : TE} {pos : Pos}
theorem fin_bl {pins : List (Addr × Obj)} {σ : St} {H : Hp} {s : Shared} {Q : VK} {k k' : Bool} (I : Inv X pins σ H s) (q : Q (.bl k) H) (e : k = k') : EP X pins σ Q (.bool k') s := by
  subst e
  exact ⟨.bl k, H, I, rfl, q⟩
theorem op_eq : OpR X (compareOp .Eq) rEq := by
  intro pins s σ H x y v u Q I rx ry h
  obtain ⟨hs, q⟩ := h
  cases x with
  | non =>
    cases rx
    cases y with
    | non => cases ry; exact PySem.EqNone.eq_none_none (fin_bl I q (by simp))
    | bl j => cases ry; exact PySem.EqNone.eq_none_bool (fin_bl I q (by simp))
    | int j => obtain ⟨t', rfl⟩ := ry; exact PySem.EqNone.eq_none_int (fin_bl I q (by simp))
    | str j => obtain ⟨t', rfl⟩ := ry; exact PySem.EqNone.eq_none_str (fin_bl I q (by simp))
    | _ => exact absurd (show false = true from hs) Bool.false_ne_true
  | bl i =>
    cases rx
    cases y with
    | non => cases ry; exact PySem.EqNone.eq_bool_none (fin_bl I q (by simp))
    | bl j => cases ry; exact eq_bool (fin_bl I q dec_bl)
    | str j => obtain ⟨t', rfl⟩ := ry; exact PySem.EqMixed.eq_bool_str (fin_bl I q (by simp))
    | _ => exact absurd (show false = true from hs) Bool.false_ne_true
  | int i =>
    obtain ⟨t, rfl⟩ := rx
    cases y with
    | non => cases ry; exact PySem.EqNone.eq_int_none (fin_bl I q (by simp))
    | int j => obtain ⟨t', rfl⟩ := ry; exact eq_int (fin_bl I q dec_int)
    | str j => obtain ⟨t', rfl⟩ := ry; exact PySem.EqMixed.eq_int_str (fin_bl I q (by simp))
    | _ => exact absurd (show false = true from hs) Bool.false_ne_true
  | str i =>
    obtain ⟨t, rfl⟩ := rx
    cases y with
    | non => cases ry; exact PySem.EqNone.eq_str_none (fin_bl I q (by simp))
    | bl j => cases ry; exact PySem.EqMixed.eq_str_bool (fin_bl I q (by simp))
    | int j => obtain ⟨t', rfl⟩ := ry; exact PySem.EqMixed.eq_str_int (fin_bl I q (by simp))
    | str j => obtain ⟨t', rfl⟩ := ry; exact eq_str (fin_bl I q dec_str)
    | _ => exact absurd (show false = true from hs) Bool.false_ne_true
  | byt i =>
    obtain ⟨t, rfl⟩ := rx
    cases y with
    | byt j => obtain ⟨t', rfl⟩ := ry; exact PySem.W.eq_bytes (fin_bl I q dec_byt)
    | _ => exact absurd (show false = true from hs) Bool.false_ne_true
  | _ => cases y <;> exact absurd (show false = true from hs) Bool.false_ne_true
theorem op_ne : OpR X (compareOp .NotEq) rNe := by
  intro pins s σ H x y v u Q I rx ry h
  obtain ⟨hs, q⟩ := h
  cases x with
  | non =>
    cases rx
    cases y with
    | non => cases ry; exact PySem.EqNone.ne_none_none (fin_bl I q (by simp))
    | bl j => cases ry; exact PySem.EqNone.ne_none_bool (fin_bl I q (by simp))
    | int j => obtain ⟨t', rfl⟩ := ry; exact PySem.EqNone.ne_none_int (fin_bl I q (by simp))
    | str j => obtain ⟨t', rfl⟩ := ry; exact PySem.EqNone.ne_none_str (fin_bl I q (by simp))
    | _ => exact absurd (show false = true from hs) Bool.false_ne_true
  | bl i =>
    cases rx
    cases y with
    | non => cases ry; exact PySem.EqNone.ne_bool_none (fin_bl I q (by simp))
    | bl j => cases ry; exact ne_bool (fin_bl I q (congrArg not dec_bl))
    | str j => obtain ⟨t', rfl⟩ := ry; exact PySem.EqMixed.ne_bool_str (fin_bl I q (by simp))
    | _ => exact absurd (show false = true from hs) Bool.false_ne_true
  | int i =>
    obtain ⟨t, rfl⟩ := rx
    cases y with
    | non => cases ry; exact PySem.EqNone.ne_int_none (fin_bl I q (by simp))
    | int j => obtain ⟨t', rfl⟩ := ry; exact ne_int (fin_bl I q (congrArg not dec_int))
    | str j => obtain ⟨t', rfl⟩ := ry; exact PySem.EqMixed.ne_int_str (fin_bl I q (by simp))
    | _ => exact absurd (show false = true from hs) Bool.false_ne_true
  | str i =>
    obtain ⟨t, rfl⟩ := rx
    cases y with
    | non => cases ry; exact PySem.EqNone.ne_str_none (fin_bl I q (by simp))
    | bl j => cases ry; exact PySem.EqMixed.ne_str_bool (fin_bl I q (by simp))
    | int j => obtain ⟨t', rfl⟩ := ry; exact PySem.EqMixed.ne_str_int (fin_bl I q (by simp))
    | str j => obtain ⟨t', rfl⟩ := ry; exact ne_str (fin_bl I q (congrArg not dec_str))
    | _ => exact absurd (show false = true from hs) Bool.false_ne_true
  | byt i =>
    obtain ⟨t, rfl⟩ := rx
    cases y with
    | byt j => obtain ⟨t', rfl⟩ := ry; exact PySem.W.ne_bytes (fin_bl I q (congrArg not dec_byt))
    | _ => exact absurd (show false = true from hs) Bool.false_ne_true
  | _ => cases y <;> exact absurd (show false = true from hs) Bool.false_ne_true

theorem op_lt : OpR X (compareOp .Lt) (rI0 fun i j => .bl (decide (i < j))) := opB0 fun _ _ _ _ _ _ _ q => lt_int q
theorem op_le : OpR X (compareOp .LtE) (rI0 fun i j => .bl (decide (i ≤ j))) := opB0 fun _ _ _ _ _ _ _ q => le_int q
theorem op_gt : OpR X (compareOp .Gt) (rI0 fun i j => .bl (decide (j < i))) := opB0 fun _ _ _ _ _ _ _ q => gt_int q
theorem op_ge : OpR X (compareOp .GtE) (rI0 fun i j => .bl (decide (j ≤ i))) := opB0 fun _ _ _ _ _ _ _ q => ge_int q
theorem op_lt_str : OpR X (compareOp .Lt) (fun x y H Q => ∃ i j, x = .str i ∧ y = .str j ∧ Q (.bl (decide (i.cps.toList < j.cps.toList))) H) := by
  intro pins s σ H x y v u Q I rx ry h
  obtain ⟨i, j, rfl, rfl, q⟩ := h
  obtain ⟨t, rfl⟩ := rx
  obtain ⟨t', rfl⟩ := ry
  exact lt_str (fin_bl I q rfl)
/-- the one string within the other -/
theorem op_in_str : OpR X (compareOp .In) (fun x y H Q => ∃ i j, x = .str i ∧ y = .str j ∧ Q (.bl (!(Builtin.Str.occurrences j i 0 j.length 1).isEmpty)) H) := by
  intro pins s σ H x y v u Q I rx ry h
  obtain ⟨i, j, rfl, rfl, q⟩ := h
  obtain ⟨t, rfl⟩ := rx
  obtain ⟨t', rfl⟩ := ry
  exact in_str (fin_bl I q rfl)

/-- is None, is not None: the right side a value none -/
theorem op_isN : OpR X (compareOp .Is) (fun x y H Q => y = .non ∧ Q (.bl (decide (x = .non))) H) := by
  intro pins s σ H x y v u Q I rx ry h
  obtain ⟨rfl, q⟩ := h
  cases ry
  refine is_none_gen (fin_bl I q ?_)
  cases x <;> first
    | (cases rx; rfl)
    | (obtain ⟨t, rfl⟩ := rx; rfl)
theorem op_notN : OpR X (compareOp .IsNot) (fun x y H Q => y = .non ∧ Q (.bl (!decide (x = .non))) H) := by
  intro pins s σ H x y v u Q I rx ry h
  obtain ⟨rfl, q⟩ := h
  cases ry
  refine isnot_none_gen (fin_bl I q ?_)
  cases x <;> first
    | (cases rx; rfl)
    | (obtain ⟨t, rfl⟩ := rx; rfl)

theorem op_notin_str : OpR X (compareOp .NotIn) (fun x y H Q => ∃ i j, x = .str i ∧ y = .str j ∧ Q (.bl (!(!(Builtin.Str.occurrences j i 0 j.length 1).isEmpty))) H) := by
  intro pins s σ H x y v u Q I rx ry h
  obtain ⟨i, j, rfl, rfl, q⟩ := h
  obtain ⟨t, rfl⟩ := rx
  obtain ⟨t', rfl⟩ := ry
  exact notIn_str (fin_bl I q rfl)
/-- is, is not of two objects that are tracked lists or instances -/
def isObj : HO → Bool
  | .lst _ => true
  | .ins _ _ _ => true
  | _ => false
theorem obj_there {pins : List (Addr × Obj)} {s : Shared} {σ : St} {H : Hp} {a : Addr} {o : HO} (I : Inv X pins σ H s) (h : H a = some o) (p : isObj o = true) : ∃ ob, s.heap.get? a = some ob ∧ ob.cls ≠ .type "tuple" := by
  cases o with
  | lst xs =>
    obtain ⟨_, its, n, _, e⟩ : xs.length ≤ sizeLine ∧ ∃ (its : List Value) (n : Nat), Vals xs its ∧ s.heap.get? a = some { cls := .type "list", data := .seq its.toArray n } := I.hok a _ h
    exact ⟨_, e, (by show Value.type "list" ≠ .type "tuple"; decide +kernel)⟩
  | ins C dx fs =>
    have x := I.hok a _ h
    obtain ⟨_, _, _, e, _⟩ := x
    exact ⟨_, e, (by show Value.ref C ≠ .type "tuple"; exact fun z => by cases z)⟩
  | _ => exact absurd (show false = true from p) Bool.false_ne_true
theorem op_is_ref : OpR X (compareOp .Is) (fun x y H Q => ∃ a b oa ob, x = .ref a ∧ y = .ref b ∧ H a = some oa ∧ isObj oa = true ∧ H b = some ob ∧ isObj ob = true ∧ Q (.bl (decide (a = b))) H) := by
  intro pins s σ H x y v u Q I rx ry h
  obtain ⟨a, b, oa, ob, rfl, rfl, ha, pa, hb, pb, q⟩ := h
  cases rx
  cases ry
  obtain ⟨o1, e1, n1⟩ := obj_there I ha pa
  obtain ⟨o2, e2, _⟩ := obj_there I hb pb
  by_cases z : a = b
  · subst z
    exact wpAny_is_ref_self (fin_bl I q (by simp))
  · exact wpAny_is_ref_other z e1 e2 n1 (fin_bl I q (by simp [z]))
theorem op_isnot_ref : OpR X (compareOp .IsNot) (fun x y H Q => ∃ a b oa ob, x = .ref a ∧ y = .ref b ∧ H a = some oa ∧ isObj oa = true ∧ H b = some ob ∧ isObj ob = true ∧ Q (.bl (!decide (a = b))) H) := by
  intro pins s σ H x y v u Q I rx ry h
  obtain ⟨a, b, oa, ob, rfl, rfl, ha, pa, hb, pb, q⟩ := h
  cases rx
  cases ry
  obtain ⟨o1, e1, n1⟩ := obj_there I ha pa
  obtain ⟨o2, e2, _⟩ := obj_there I hb pb
  by_cases z : a = b
  · subst z
    exact wpAny_isNot_ref_self (fin_bl I q (by simp))
  · exact wpAny_isNot_ref_other z e1 e2 n1 (fin_bl I q (by simp [z]))

/-- two rules for one operation: by cases -/
theorem OpR.or {f : Value → Value → Sem Value} {r r' : R2} (h : OpR X f r) (h' : OpR X f r') : OpR X f (fun x y H Q => r x y H Q ∨ r' x y H Q) := by
  intro pins s σ H x y v u Q I rx ry q
  rcases q with q | q
  · exact h pins s σ H x y v u Q I rx ry q
  · exact h' pins s σ H x y v u Q I rx ry q

theorem nomark (b : Expr) {op : CmpOp} (h : op ≠ .In := by decide) (h2 : op ≠ .NotIn := by decide) : behindInMarks op b = false := by
  have e1 : (op == CmpOp.In) = false := by cases op <;> first | rfl | exact absurd rfl h
  have e2 : (op == CmpOp.NotIn) = false := by cases op <;> first | rfl | exact absurd rfl h2
  cases b <;> simp [behindInMarks, e1, e2]
/-- a comparison as a value; hm: nomark b, or (for in, not in) by with_unfolding_all rfl -/
theorem pe_cmpR {op : CmpOp} {r : R2} (ho : OpR X (compareOp op) r) (ha : PE X a ta) (hb : PE X b tb) (hm : behindInMarks op b = false) : PE X (.Compare a [op] [b] pos) (tOp r ta tb) := by
  intro pins s σ H Q I h
  exact wpAny_Compare1 (binT ha hb I h fun v u s2 x y H2 I2 rx ry q => ho pins s2 σ H2 x y v u Q I2 rx ry q) hm
/-- a reading of a value as a test -/
def tTest (t : TE) : TT := fun σ H Q => t σ H fun x H' => ∃ k, x = .bl k ∧ Q k H'
theorem pt_cmpR {op : CmpOp} {r : R2} (ho : OpR X (compareOp op) r) (ha : PE X a ta) (hb : PE X b tb) (hm : behindInMarks op b = false) : PT X (.Compare a [op] [b] pos) (tTest (tOp r ta tb)) := by
  intro pins s σ H Q I h
  refine wpAny_isTrue_Compare1 (thn (ha pins s σ H _ I h) fun v s1 ⟨x, H1, I1, r1, q1⟩ => thn (hb pins s1 σ H1 _ I1 q1) fun u s2 ⟨y, H2, I2, r2, q2⟩ =>
    thn (ho pins s2 σ H2 x y v u _ I2 r1 r2 q2) fun c s3 ⟨z, H3, I3, r3, k, e, q3⟩ => ?_) hm
  subst e
  cases r3
  exact wpAny_truthy_bool ⟨H3, I3, q3⟩
/-- a op1 b op2 c -/
def tChain (r r' : R2) (ta tb tc : TE) : TE := fun σ H Q => ta σ H fun x H1 => tb σ H1 fun y H2 => r x y H2 fun z H3 => ∃ k, z = .bl k ∧
  (if k = true then tc σ H3 fun w' H4 => r' y w' H4 Q else Q (.bl false) H3)
theorem pe_chain {op op' : CmpOp} {r r' : R2} (ho : OpR X (compareOp op) r) (ho' : OpR X (compareOp op') r') (ha : PE X a ta) (hb : PE X b tb) (hc : PE X c tc)
    (hm : lastMarks [op, op'] [b, c] = false := by with_unfolding_all rfl) : PE X (.Compare a [op, op'] [b, c] pos) (tChain r r' ta tb tc) := by
  intro pins s σ H Q I h
  refine Compare_chain (thn (ha pins s σ H _ I h) fun v s1 ⟨x, H1, I1, r1, q1⟩ => chain_link (thn (hb pins s1 σ H1 _ I1 q1) fun u s2 ⟨y, H2, I2, r2, q2⟩ =>
    thn (ho pins s2 σ H2 x y v u _ I2 r1 r2 q2) fun d s3 ⟨z, H3, I3, r3, k, e, q3⟩ => ?_)) hm
  subst e
  cases r3
  refine wpAny_truthy_bool ?_
  cases k with
  | false => exact ite_ff ⟨.bl false, H3, I3, rfl, q3⟩
  | true => exact ite_tt (chain_last (thn (hc pins s3 σ H3 _ I3 q3) fun w' s4 ⟨z', H4, I4, r4, q4⟩ => ho' pins s4 σ H4 y z' u w' Q I4 r2 r4 q4))
theorem pt_chain {op op' : CmpOp} {r r' : R2} (ho : OpR X (compareOp op) r) (ho' : OpR X (compareOp op') r') (ha : PE X a ta) (hb : PE X b tb) (hc : PE X c tc)
    (hm : lastMarks [op, op'] [b, c] = false := by with_unfolding_all rfl) : PT X (.Compare a [op, op'] [b, c] pos) (tTest (tChain r r' ta tb tc)) := by
  intro pins s σ H Q I h
  refine isTrue_chain (thn (ha pins s σ H _ I h) fun v s1 ⟨x, H1, I1, r1, q1⟩ => test_link (thn (hb pins s1 σ H1 _ I1 q1) fun u s2 ⟨y, H2, I2, r2, q2⟩ =>
    thn (ho pins s2 σ H2 x y v u _ I2 r1 r2 q2) fun d s3 ⟨z, H3, I3, r3, k, e, q3⟩ => ?_)) hm
  subst e
  cases r3
  refine wpAny_truthy_bool ?_
  cases k with
  | false =>
    obtain ⟨k', e', q'⟩ := q3
    cases e'
    exact ite_ff ⟨H3, I3, q'⟩
  | true =>
    refine ite_tt (test_last (thn (hc pins s3 σ H3 _ I3 q3) fun w' s4 ⟨z', H4, I4, r4, q4⟩ => thn (ho' pins s4 σ H4 y z' u w' _ I4 r2 r4 q4) fun d' s5 ⟨z2, H5, I5, r5, k2, e2, q5⟩ => ?_))
    subst e2
    cases r5
    exact wpAny_truthy_bool ⟨H5, I5, q5⟩

/-! ### truth -/
/-- a value's truth by the abstract heap -/
def TruV (K : PySem.W.Frag) (x : V) (H : Hp) (k : Bool) : Prop :=
  match x with
  | .non => k = false
  | .bl b => k = b
  | .int i => k = (i != 0)
  | .str y => y.length ≤ sizeLine ∧ k = ((y.length : Int) != 0)
  | .byt y => y.size ≤ sizeLine ∧ k = ((y.size : Int) != 0)
  | .ref p => (∃ xs, SqL K H p xs ∧ k = !xs.isEmpty) ∨ (∃ xs, SqT K H p xs ∧ k = !xs.isEmpty) ∨ ∃ kvs, H p = some (.dK kvs) ∧ k = !kvs.isEmpty
  | _ => False
theorem isEmpty_kv {κ : Type} {kvs : List (κ × V)} {vs : List (κ × Value)} (r : KV kvs vs) : (!vs.isEmpty) = !kvs.isEmpty := by
  cases r <;> rfl
theorem isEmpty_of {xs : List V} {its : List Value} (r : Vals xs its) : (!its.toArray.isEmpty) = !xs.isEmpty := by
  cases r <;> simp
theorem line63 : (sizeLine : Nat) < 2 ^ 63 := by rw [sizeLine_eq]; decide
theorem tru_ok : TruR X (fun x H Q => ∃ k, TruV X.K x H k ∧ Q k H) := by
  intro pins s σ H x v Q I rx h
  obtain ⟨k, e, q⟩ := h
  have hl := line63
  have hs : sizeLine = 16777216 := sizeLine_eq
  cases x with
  | non =>
    cases rx
    have e' : k = false := e
    subst e'
    exact truthy_none ⟨H, I, q⟩
  | bl b =>
    cases rx
    have e' : k = b := e
    subst e'
    exact wpAny_truthy_bool ⟨H, I, q⟩
  | int i =>
    obtain ⟨t, rfl⟩ := rx
    have e' : k = (i != 0) := e
    subst e'
    exact PySem.P.truthy_int ⟨H, I, q⟩
  | str y =>
    obtain ⟨t, rfl⟩ := rx
    obtain ⟨hy, e'⟩ : y.length ≤ sizeLine ∧ k = ((y.length : Int) != 0) := e
    subst e'
    exact PySem.P.truthy_str (by omega) ⟨H, I.tok _, q⟩
  | byt y =>
    obtain ⟨t, rfl⟩ := rx
    obtain ⟨hy, e'⟩ : y.size ≤ sizeLine ∧ k = ((y.size : Int) != 0) := e
    subst e'
    exact PySem.W.truthy_bytes (by omega) ⟨H, I.tok _, q⟩
  | ref p =>
    cases rx
    have e' : (∃ xs, SqL X.K H p xs ∧ k = !xs.isEmpty) ∨ (∃ xs, SqT X.K H p xs ∧ k = !xs.isEmpty) ∨ ∃ kvs, H p = some (.dK kvs) ∧ k = !kvs.isEmpty := e
    rcases e' with ⟨xs, hx, e'⟩ | ⟨xs, hx, e'⟩ | ⟨kvs, hx, e'⟩
    · subst e'
      obtain ⟨its, r, pl, hz⟩ := I.list hx
      have hlen := r.length
      exact wpAny_truthy_list pl.isList (by simp only [List.size_toArray]; omega) ⟨H, I.tok _, by rw [isEmpty_of r]; exact q⟩
    · subst e'
      obtain ⟨its, r, pl, hz⟩ := I.tuple hx
      have hlen := r.length
      exact truthy_tuple pl (by simp only [List.size_toArray]; omega) ⟨H, I.tok _, by rw [isEmpty_of r]; exact q⟩
    · subst e'
      obtain ⟨hz, hS, vs, r, m⟩ : kvs.length ≤ sizeLine ∧ (p == sysModules) = false ∧ ∃ vs, KV kvs vs ∧ s.heap.DictOf (mixKind X.prog X.w) p vs := I.hok p _ hx
      have hlen : kvs.length = vs.length := Paired.length r
      exact wpAny_truthy_dict hS m (by omega) ⟨H, I.tok _, by rw [isEmpty_kv r]; exact q⟩
  | _ => exact (show False from e).elim
/-- any expression whose test is its value's truth (a name, a call, a subscript, a field ..: he by fun _ => rfl) -/
theorem pt_truth (ha : PE X a ta) (he : ∀ whole, isTrue a X.env whole = (do let v ← whole; standAt a.pos; holding [v] (truthy v))) :
    PT X a (fun σ H Q => ta σ H fun x H' => ∃ k, TruV X.K x H' k ∧ Q k H') := by
  intro pins s σ H Q I h
  exact isTrue_plain (thn (ha pins s σ H _ I h) fun v s1 ⟨x, H1, I1, r1, q1⟩ => tru_ok pins s1 σ H1 x v Q I1 r1 q1) (he _)

/-! ### strs and bytes -/
theorem pe_byt {x : List UInt8} {k : Nat} : PE X (.Constant (.bytes x) k pos) (fun _ H Q => Q (.byt x.toArray) H) := fun _ _ _ H _ I h => PySem.W.Constant_bytes ⟨.byt x.toArray, H, I.tok _, ⟨_, rfl⟩, h⟩
theorem op_add_str : OpR X (binaryOp .Add) (fun x y H Q => ∃ i j, x = .str i ∧ y = .str j ∧ i.length + j.length ≤ sizeLine ∧ Q (.str (i ++ j)) H) := by
  intro pins s σ H x y v u Q I rx ry h
  obtain ⟨i, j, rfl, rfl, hz, q⟩ := h
  obtain ⟨t, rfl⟩ := rx
  obtain ⟨t', rfl⟩ := ry
  exact add_str (fun t' tk => ⟨.str (i ++ j), H, I.tok _, ⟨_, rfl⟩, q⟩) hz
theorem iop_add_str : OpR X (inplaceOp .Add) (fun x y H Q => ∃ i j, x = .str i ∧ y = .str j ∧ i.length + j.length ≤ sizeLine ∧ Q (.str (i ++ j)) H) := by
  intro pins s σ H x y v u Q I rx ry h
  obtain ⟨i, j, rfl, rfl, hz, q⟩ := h
  obtain ⟨t, rfl⟩ := rx
  obtain ⟨t', rfl⟩ := ry
  exact iadd_str (fun t' tk => ⟨.str (i ++ j), H, I.tok _, ⟨_, rfl⟩, q⟩) hz
theorem op_add_byt : OpR X (binaryOp .Add) (fun x y H Q => ∃ i j, x = .byt i ∧ y = .byt j ∧ i.size + j.size ≤ 16777216 ∧ Q (.byt (i ++ j)) H) := by
  intro pins s σ H x y v u Q I rx ry h
  obtain ⟨i, j, rfl, rfl, hz, q⟩ := h
  obtain ⟨t, rfl⟩ := rx
  obtain ⟨t', rfl⟩ := ry
  exact PySem.W.KBy.add_bytes hz (fun t' tk => ⟨.byt (i ++ j), H, I.tok _, ⟨_, rfl⟩, q⟩)

def PlainIxT (b : Expr) : Prop := ∀ o i, subscripted b false o i = operate [o, i] (getItem o i)
/-- s[i], 0 ≤ i < len -/
theorem pe_item_str (ha : PE X a ta) (hb : PE X b tb) (hs : PlainIxT b) :
    PE X (.Subscript a b pos) (tOp (fun x y H Q => ∃ z i c, x = .str z ∧ y = .int i ∧ 0 ≤ i ∧ i < 2 ^ 63 ∧ i < z.length ∧ z.cps[i.toNat]? = some c ∧ Q (.str ⟨#[c]⟩) H) ta tb) := by
  intro pins s σ H Q I h
  refine Subscript_ (binT ha hb I h fun v u s2 x y H2 I2 rx ry q => ?_)
  obtain ⟨z, i, c, rfl, rfl, h0, h63, h1, hc, q⟩ := q
  obtain ⟨t, rfl⟩ := rx
  obtain ⟨t', rfl⟩ := ry
  have e : seqIndex? i z.length = some i.toNat := PySem.StrLaws.seqIndex_nonneg h0 h1
  exact tail_any (typeIs_str s2 z t) slot_str_getitem.lookup (getItem_str (c := c) (by
    have e1 : decide (i < -(2 ^ 63 : Int)) = false := decide_eq_false (by omega)
    have e2 : decide (i ≥ 2 ^ 63) = false := decide_eq_false (by omega)
    rw [e1, e2] <;> rfl) (by rw [e]; exact hc) ⟨.str ⟨#[c]⟩, H2, I2.tok _, ⟨_, rfl⟩, q⟩) (hs _ _)
/-- b[i], 0 ≤ i < len -/
theorem pe_item_byt (ha : PE X a ta) (hb : PE X b tb) (hs : PlainIxT b) :
    PE X (.Subscript a b pos) (tOp (fun x y H Q => ∃ (z : List UInt8) (i : Int), x = .byt z.toArray ∧ y = .int i ∧ z.length ≤ sizeLine ∧ 0 ≤ i ∧ i < z.length ∧ Q (.int ((z.getD i.toNat 0).toNat : Nat)) H) ta tb) := by
  intro pins s σ H Q I h
  refine Subscript_ (binT ha hb I h fun v u s2 x y H2 I2 rx ry q => ?_)
  obtain ⟨z, i, rfl, rfl, hz, h0, h1, q⟩ := q
  obtain ⟨t, rfl⟩ := rx
  obtain ⟨t', rfl⟩ := ry
  have hl : sizeLine = 16777216 := sizeLine_eq
  exact tail_any (PySem.W.typeIs_bytes s2 z.toArray t) PySem.W.FB.slot_bytes_getitem.lookup (PySem.W.getItem_bytes (by omega) h0 h1 ⟨.int ((z.getD i.toNat 0).toNat : Nat), H2, I2.tok _, ⟨_, rfl⟩, q⟩) (hs _ _)

/-! ### scalar builtins, by CallR -/
theorem vals1 {x : V} {us : List Value} (r : Vals [x] us) : ∃ u, us = [u] ∧ RelV x u := by
  cases r with
  | cons r1 r2 => cases r2; exact ⟨_, rfl, r1⟩
theorem vals2 {x y : V} {us : List Value} (r : Vals [x, y] us) : ∃ u w', us = [u, w'] ∧ RelV x u ∧ RelV y w' := by
  cases r with
  | cons r1 r2 =>
    cases r2 with
    | cons r3 r4 => cases r4; exact ⟨_, _, rfl, r1, r3⟩
theorem call_abs : CallR X (.builtin "abs") (fun xs H Q => ∃ i, xs = [.int i] ∧ Q (.int (if i < 0 then -i else i)) H) := by
  intro pins s σ H xs us Q I r h
  obtain ⟨i, rfl, q⟩ := h
  obtain ⟨u, rfl, t, rfl⟩ := vals1 r
  exact call_abs_int fun u tk => ⟨.int (if i < 0 then -i else i), H, I.tok _, ⟨_, rfl⟩, q⟩
theorem call_max2 (hc : X.calm = true) : CallR X (.builtin "max") (fun xs H Q => ∃ i j, xs = [.int i, .int j] ∧ Q (.int (if j > i then j else i)) H) := by
  intro pins s σ H xs us Q I r h
  obtain ⟨i, j, rfl, q⟩ := h
  obtain ⟨u, w', rfl, ⟨t, rfl⟩, ⟨t', rfl⟩⟩ := vals2 r
  refine max_two_ints (I.ok.hd hc) fun h' tk k => ⟨_, H, I.kept k, ?_, q⟩
  by_cases hj : j > i
  · rw [if_pos hj, if_pos hj]; exact ⟨_, rfl⟩
  · rw [if_neg hj, if_neg hj]; exact ⟨_, rfl⟩
theorem call_min2 (hc : X.calm = true) : CallR X (.builtin "min") (fun xs H Q => ∃ i j, xs = [.int i, .int j] ∧ Q (.int (if j < i then j else i)) H) := by
  intro pins s σ H xs us Q I r h
  obtain ⟨i, j, rfl, q⟩ := h
  obtain ⟨u, w', rfl, ⟨t, rfl⟩, ⟨t', rfl⟩⟩ := vals2 r
  refine min_two_ints (I.ok.hd hc) fun h' tk k => ⟨_, H, I.kept k, ?_, q⟩
  by_cases hj : j < i
  · rw [if_pos hj, if_pos hj]; exact ⟨_, rfl⟩
  · rw [if_neg hj, if_neg hj]; exact ⟨_, rfl⟩
theorem call_int1 : CallR X (.type "int") (fun xs H Q => (∃ i, xs = [.int i] ∧ Q (.int i) H) ∨ ∃ k, xs = [.bl k] ∧ Q (.int (if k then 1 else 0)) H) := by
  intro pins s σ H xs us Q I r h
  rcases h with ⟨i, rfl, q⟩ | ⟨k, rfl, q⟩
  · obtain ⟨u, rfl, t, rfl⟩ := vals1 r
    exact call_int_int ⟨.int i, H, I, ⟨_, rfl⟩, q⟩
  · obtain ⟨u, rfl, r1⟩ := vals1 r
    cases r1
    exact call_int_bool ⟨.int (if k then 1 else 0), H, I.tok _, ⟨_, rfl⟩, q⟩
theorem call_bool1 : CallR X (.type "bool") (fun xs H Q => (∃ i, xs = [.int i] ∧ Q (.bl (i != 0)) H) ∨ ∃ k, xs = [.bl k] ∧ Q (.bl k) H) := by
  intro pins s σ H xs us Q I r h
  rcases h with ⟨i, rfl, q⟩ | ⟨k, rfl, q⟩
  · obtain ⟨u, rfl, t, rfl⟩ := vals1 r
    exact call_bool_int ⟨.bl (i != 0), H, I, rfl, q⟩
  · obtain ⟨u, rfl, r1⟩ := vals1 r
    cases r1
    exact call_bool_bool ⟨.bl k, H, I, rfl, q⟩
theorem call_str_int : CallR X (.type "str") (fun xs H Q => ∃ i, xs = [.int i] ∧ i.natAbs.log2 < 1920 ∧ Q (.str (toString i)) H) := by
  intro pins s σ H xs us Q I r h
  obtain ⟨i, rfl, hz, q⟩ := h
  obtain ⟨u, rfl, t, rfl⟩ := vals1 r
  exact PySem.P.str_of_int hz ⟨.str _, H, I.tok _, ⟨_, rfl⟩, q⟩
theorem call_ord : CallR X (.builtin "ord") (fun xs H Q => ∃ x, xs = [.str x] ∧ x.length = 1 ∧ Q (.int (x.cps.getD 0 0 : Nat)) H) := by
  intro pins s σ H xs us Q I r h
  obtain ⟨x, rfl, hz, q⟩ := h
  obtain ⟨u, rfl, t, rfl⟩ := vals1 r
  exact ord_of_one hz ⟨.int _, H, I.tok _, ⟨_, rfl⟩, q⟩
theorem call_chr : CallR X (.builtin "chr") (fun xs H Q => ∃ i, xs = [.int i] ∧ 0 ≤ i ∧ i ≤ 1114111 ∧ Q (.str ⟨#[i.toNat]⟩) H) := by
  intro pins s σ H xs us Q I r h
  obtain ⟨i, rfl, h0, h1, q⟩ := h
  obtain ⟨u, rfl, t, rfl⟩ := vals1 r
  exact chr_of_range h0 h1 ⟨.str _, H, I.tok _, ⟨_, rfl⟩, q⟩
/-- len of a str, a bytes, a list, a tuple -/
def LenV (K : PySem.W.Frag) (x : V) (H : Hp) (n : Nat) : Prop :=
  match x with
  | .str y => y.length ≤ sizeLine ∧ n = y.length
  | .byt y => y.size ≤ sizeLine ∧ n = y.size
  | .ref p => (∃ xs, SqL K H p xs ∧ n = xs.length) ∨ ∃ xs, SqT K H p xs ∧ n = xs.length
  | _ => False
theorem call_len : CallR X (.builtin "len") (fun xs H Q => ∃ x n, xs = [x] ∧ LenV X.K x H n ∧ Q (.int n) H) := by
  intro pins s σ H xs us Q I r h
  obtain ⟨x, n, rfl, e, q⟩ := h
  obtain ⟨u, rfl, rx⟩ := vals1 r
  have hl := line63
  have hs : sizeLine = 16777216 := sizeLine_eq
  cases x with
  | str y =>
    obtain ⟨t, rfl⟩ := rx
    obtain ⟨hy, e'⟩ : y.length ≤ sizeLine ∧ n = y.length := e
    subst e'
    exact len_str (by omega) ⟨.int _, H, I.tok _, ⟨_, rfl⟩, q⟩
  | byt y =>
    obtain ⟨t, rfl⟩ := rx
    obtain ⟨hy, e'⟩ : y.size ≤ sizeLine ∧ n = y.size := e
    subst e'
    exact PySem.W.len_bytes (by omega) ⟨.int _, H, I.tok _, ⟨_, rfl⟩, q⟩
  | ref p =>
    cases rx
    have e' : (∃ xs, SqL X.K H p xs ∧ n = xs.length) ∨ ∃ xs, SqT X.K H p xs ∧ n = xs.length := e
    rcases e' with ⟨xs, hx, e'⟩ | ⟨xs, hx, e'⟩
    · subst e'
      obtain ⟨its, r', pl, hz⟩ := I.list hx
      have hlen := r'.length
      exact Calls.call_len_list pl.isList (by simp only [List.size_toArray]; omega) ⟨.int xs.length, H, I.tok _, ⟨_, by simp only [List.size_toArray]; rw [hlen]⟩, q⟩
    · subst e'
      obtain ⟨its, r', pl, hz⟩ := I.tuple hx
      have hlen := r'.length
      exact len_tuple pl (by simp only [List.size_toArray]; omega) ⟨.int xs.length, H, I.tok _, ⟨_, by simp only [List.size_toArray]; rw [hlen]⟩, q⟩
  | _ => exact (show False from e).elim
/-- divmod: a new tuple -/
theorem call_divmod : CallR X (.builtin "divmod") (fun xs H Q => ∃ i j, xs = [.int i, .int j] ∧ CDiv i j ∧ ∀ p, H p = none → Q (.ref p) (upd H p (.tup [.int (i / j), .int (i % j)]))) := by
  intro pins s σ H xs us Q I r h
  obtain ⟨i, j, rfl, ⟨h1, h2⟩, q⟩ := h
  obtain ⟨u, w', rfl, ⟨t, rfl⟩, ⟨t', rfl⟩⟩ := vals2 r
  refine divmod_int (by omega) ?_ (.inl (PyProof.noPylong_small (by omega)))
  rw [Int.fdiv_eq_ediv_of_nonneg i (by omega), Int.fmod_eq_emod_of_nonneg i (by omega)]
  have hn : H s.heap.objs.size = none := I.hok.fresh (Nat.le_refl _)
  refine ⟨.ref s.heap.objs.size, _, ?_, rfl, q _ hn⟩
  refine I.laid (fun b o e => Heap.get?_push_of_some _ e) (Nat.le_refl _) ⟨by simp only [List.length_cons, List.length_nil]; rw [sizeLine_eq]; decide, [.int (i / j) s.toks, .int (i % j) (s.toks + 1)], .cons ⟨_, rfl⟩ (.cons ⟨_, rfl⟩ .nil), ?_⟩
  exact ⟨⟨_, Heap.get?_push_size s.heap rfl, rfl, 0, rfl⟩, NoD.new _ rfl⟩
end
end L2

namespace L2
open PySem PySem.Spec PyProof.Rows

/-! ### an instance, its attributes a map -/
structure ObjM (h : Heap) (x dx C : Addr) (mA : Str → Option Value) : Prop where
  obj : h.get? x = some (PySem.W.instObj C dx)
  ns : h.Ns1 dx mA
  ne : dx ≠ x

theorem lookIn_ns {h : Heap} {dx : Addr} {mA : Str → Option Value} (n : h.Ns1 dx mA) : ∃ od, h.get? dx = some od ∧ ∀ name, PySem.W.lookIn name od = some (mA name) := by
  obtain ⟨o, es, ep, ho, hd, hk, _, hm⟩ := n
  refine ⟨o, ho, fun name => ?_⟩
  have e := hm name
  unfold nsFind findBy at e
  rw [← Array.find?_toList] at e
  unfold PySem.W.lookIn
  rw [hd]
  dsimp only
  split
  · rename_i y q
    rw [q] at e
    exact congrArg some e
  · rename_i q
    rw [q] at e
    have a : es.toList.any (·.refKey) = false := by
      rw [List.any_eq_false]
      intro y hy
      obtain ⟨z, t, hkey⟩ := hk y (Array.mem_toList_iff.mp hy)
      simp [DictEntry.refKey, hkey]
    have a' : ¬ es.toList.any (·.refKey) = true := by rw [a]; exact Bool.false_ne_true
    rw [if_neg a']
    exact congrArg some e

theorem ObjM.look {h : Heap} {x dx C : Addr} {mA : Str → Option Value} (I : ObjM h x dx C mA) : ∃ od, PySem.W.InstAt h x (PySem.W.instObj C dx) C (some od) ∧ ∀ name, PySem.W.lookIn name od = some (mA name) :=
  let ⟨od, ho, hl⟩ := lookIn_ns I.ns
  ⟨od, ⟨I.obj, rfl, rfl, ho⟩, hl⟩

section
variable {prog : Program} {w : World} {A : Around} {E : Value → Shared → Prop} {s : Shared} {K : PySem.W.Frag} {x dx C f : Addr} {mA : Str → Option Value} {name : Str} {v : Value}

theorem get_map {expr : Bool} {Q : Value → Shared → Prop} (X : K.In s.heap) (I : ObjM s.heap x dx C mA) (hg : PySem.W.plainGet K C name = true) (hh : PySem.W.hasDictIn K C = true)
    (ha : PySem.W.findIn K (.ref C) name = some none) (hv : mA name = some v) (hv' : PySem.W.handedIn v = true) (h : Q v { s with toks := s.toks + 1 }) :
    wpAny (model prog w) A (getAttr (.ref x) name expr) Q E s := by
  obtain ⟨od, J, hl⟩ := I.look
  exact PySem.W.get_value X J (PySem.W.plainGet_of hg).1 (PySem.W.findObj_own hh ha rfl (by rw [hl, hv])) hv' h

theorem get_const {expr : Bool} {a : Value} {Q : Value → Shared → Prop} (X : K.In s.heap) (I : ObjM s.heap x dx C mA) (hg : PySem.W.plainGet K C name = true) (hh : PySem.W.hasDictIn K C = true)
    (ha : PySem.W.findIn K (.ref C) name = some (some a)) (hn : PySem.W.specialIn K a "__get__" = some none) (hc : PySem.W.copiedNames.contains name = false) (hv : mA name = none) (hv' : PySem.W.handedIn a = true)
    (h : Q a { s with toks := s.toks + 1 }) : wpAny (model prog w) A (getAttr (.ref x) name expr) Q E s := by
  obtain ⟨od, J, hl⟩ := I.look
  exact PySem.W.get_value X J (PySem.W.plainGet_of hg).1 (PySem.W.findObj_cls hh ha hn hv' hc (by rw [hl, hv])) hv' h

theorem get_meth {pl : Sem Bool} {Q : Value × List Value → Shared → Prop} (X : K.In s.heap) (I : ObjM s.heap x dx C mA) (hg : PySem.W.plainGet K C name = true)
    (hf : PySem.W.findIn K (.ref C) name = some (some (.ref f))) (ht : PySem.W.isFn K (.ref f) = true) (hv : mA name = none) (h : Q (.ref f, [.ref x]) s) :
    wpAny (model prog w) A (getMethod (.ref x) name pl) Q E s := by
  obtain ⟨od, J, hl⟩ := I.look
  exact PySem.W.method_fn X J (PySem.W.plainGet_of hg).1 (PySem.W.plainGet_of hg).2 hf (beq_iff_eq.mp ht) (by show (PySem.W.lookIn name od).map (·.isSome) = some false; rw [hl, hv]; rfl) h

theorem set_map {ns : List Str} {Q : Unit → Shared → Prop} (X : K.In s.heap) (I : ObjM s.heap x dx C mA)
    (hs : PySem.W.findIn K (.ref C) "__setattr__" = some (some (.builtin "object.__setattr__"))) (hp : PySem.W.plainOver K C = true) (ht : PySem.W.takerIn K C name = some none) (hh : PySem.W.hasDictIn K C = true)
    (hw : PySem.Within mA ns) (hsz : ns.length ≤ sizeLine)
    (h : ∀ h', ObjM h' x dx C (fun y => if y = name then some v else mA y) → Heap.SameBut dx s.heap h' → Q () { s with heap := h', toks := s.toks + 2 }) :
    wpAny (model prog w) A (setAttr (.ref x) name v) Q E s := by
  obtain ⟨od, J, hl⟩ := I.look
  refine PySem.W.set_plain X J hs (PySem.W.osa_open (s := { s with toks := s.toks + 1 }) (r := none) X J hp ht fun b => ?_)
  obtain ⟨cd, hc, hd'⟩ := PySem.W.any_some hh
  have hx : s.heap.get? x = some ⟨.ref C, some dx, .plain, #[]⟩ := I.obj
  refine wpAny_bind (wpAny_pure (wpAny_bind (wpAny_bind (wpAny_loadPart hx (wpAny_bind (PySem.W.Looks.here (s := { s with toks := s.toks + 1 }) (PySem.W.looks_clsIn X hc) ?_))))))
  rw [hd']
  refine wpAny_pure (a := some dx) (wpAny_bind (wpAny_pure (wpAny_bind ?_)))
  refine wpAny_nsSet1 (s := { s with toks := s.toks + 1 }) I.ns fun h' hn2 hs2 => ?_
  obtain ⟨oD, esD, epD, hoD, hdD, hcD⟩ := hn2.count (PySem.Within.cons name v hw)
  refine wpAny_bind (wpAny_lookBehind hoD (by rw [hdD]; exact pastItsLine_dict (Nat.le_trans hcD (by rw [List.length_cons]; omega))) ?_)
  exact wpAny_pure (h _ ⟨(hs2.2 _ (Ne.symm I.ne)).trans I.obj, hn2, I.ne⟩ hs2)

/-- C(..): the dict at the heap's end, the instance behind it; then its __init__ -/
theorem make_map {R : Result → Shared → Prop} {vs : List Value} {kw : List (Str × Value)} (X : K.In s.heap) (hm : PySem.W.makesIn K C = true)
    (hi : PySem.W.findIn K (.ref C) "__init__" = some (some (.ref f))) (hf : PySem.W.typeIn K (.ref f) = some (.type "function"))
    (h : codeAny (model prog w) (A.under (.builtin "type.__call__" ⟨.ref C :: vs, kw⟩)) (.call (.ref f) ⟨.ref (s.heap.objs.size + 1) :: vs, kw⟩) (PySem.W.InitBack (s.heap.objs.size + 1) R)
      { s with heap := (s.heap.push PySem.W.emptyDict).push (PySem.W.instObj C s.heap.objs.size) }) :
    codeAny (model prog w) A (.call (.ref C) ⟨vs, kw⟩) R s := by
  obtain ⟨hh, g, d, t, os⟩ := s
  exact PySem.W.make_core (PySem.W.makes_of X hm) (PySem.W.looks_findIn X hi) (fun self => PySem.W.bind_fn X self hf) (.inl rfl) h
/-- C() where there is no __init__ but object's -/
theorem make_map0 {R : Result → Shared → Prop} (X : K.In s.heap) (hm : PySem.W.makesIn K C = true)
    (hi : PySem.W.findIn K (.ref C) "__init__" = some (some (.builtin "object.__init__")))
    (hb : ∀ self, PySem.W.Looks (model prog w) s.heap (bindSpecial (.builtin "object.__init__") self) (.builtin "object.__init__", [self]))
    (h : codeAny (model prog w) (A.under (.builtin "type.__call__" ⟨[.ref C], []⟩)) (.call (.builtin "object.__init__") ⟨[.ref (s.heap.objs.size + 1)], []⟩) (PySem.W.InitBack (s.heap.objs.size + 1) R)
      { s with heap := (s.heap.push PySem.W.emptyDict).push (PySem.W.instObj C s.heap.objs.size) }) :
    codeAny (model prog w) A (.call (.ref C) ⟨[], []⟩) R s := by
  obtain ⟨hh, g, d, t, os⟩ := s
  exact PySem.W.make_core (PySem.W.makes_of X hm) (PySem.W.looks_findIn X hi) hb (.inr ⟨rfl, rfl⟩) h
end

/-! ### the attributes as a list of pairs -/
def putF (f : Str) (v : V) : List (Str × V) → List (Str × V)
  | [] => [(f, v)]
  | (g, x) :: r => if g = f then (g, v) :: r else (g, x) :: putF f v r
theorem lookup_putF (f g : Str) (v : V) : ∀ fs : List (Str × V), (putF f v fs).lookup g = if g = f then some v else fs.lookup g
  | [] => by
    show List.lookup g [(f, v)] = _
    by_cases h : g = f
    · have hb : (g == f) = true := beq_iff_eq.mpr h
      simp only [List.lookup, hb, if_pos h]
    · have hb : (g == f) = false := beq_eq_false_iff_ne.mpr h
      simp only [List.lookup, hb, if_neg h]
  | (k, x) :: r => by
    have ih := lookup_putF f g v r
    rw [show putF f v ((k, x) :: r) = (if k = f then (k, v) :: r else (k, x) :: putF f v r) from rfl]
    by_cases hk : k = f
    · rw [if_pos hk]
      by_cases h : g = k
      · have hb : (g == k) = true := beq_iff_eq.mpr h
        simp only [List.lookup, hb, if_pos (h.trans hk)]
      · have hb : (g == k) = false := beq_eq_false_iff_ne.mpr h
        simp only [List.lookup, hb, if_neg (fun e : g = f => h (e.trans hk.symm))]
    · rw [if_neg hk]
      by_cases h : g = k
      · have hb : (g == k) = true := beq_iff_eq.mpr h
        simp only [List.lookup, hb, if_neg (fun e : g = f => hk (h.symm.trans e))]
      · have hb : (g == k) = false := beq_eq_false_iff_ne.mpr h
        simp only [List.lookup, hb]
        exact ih
theorem keys_putF (f : Str) (v : V) : ∀ fs : List (Str × V), f ∈ (putF f v fs).map (·.1) ∧ ∀ g, g ∈ fs.map (·.1) → g ∈ (putF f v fs).map (·.1)
  | [] => ⟨by simp [putF], fun g h => by simp at h⟩
  | (k, x) :: r => by
    obtain ⟨i1, i2⟩ := keys_putF f v r
    rw [show putF f v ((k, x) :: r) = (if k = f then (k, v) :: r else (k, x) :: putF f v r) from rfl]
    by_cases hk : k = f
    · rw [if_pos hk]
      subst hk
      exact ⟨by simp, fun g h => by simpa using h⟩
    · rw [if_neg hk]
      refine ⟨?_, fun g h => ?_⟩
      · rw [List.map_cons]
        exact List.mem_cons_of_mem _ i1
      · rw [List.map_cons] at h ⊢
        rcases List.mem_cons.mp h with e | e
        · exact List.mem_cons.mpr (.inl e)
        · exact List.mem_cons_of_mem _ (i2 g e)
theorem length_putF (f : Str) (v : V) : ∀ fs : List (Str × V), (putF f v fs).length ≤ fs.length + 1
  | [] => by simp [putF]
  | (k, x) :: r => by
    have ih := length_putF f v r
    rw [show putF f v ((k, x) :: r) = (if k = f then (k, v) :: r else (k, x) :: putF f v r) from rfl]
    by_cases hk : k = f
    · rw [if_pos hk, List.length_cons, List.length_cons]; omega
    · rw [if_neg hk, List.length_cons, List.length_cons]; omega

theorem RelO.some_of {v : V} {o : Option Value} (r : RelO (some v) o) : ∃ u, o = some u ∧ RelV v u := by
  cases o with
  | none => exact (show False from r).elim
  | some u => exact ⟨u, rfl, r⟩
theorem RelO.none_of {o : Option Value} (r : RelO none o) : o = none := by
  cases o with
  | none => rfl
  | some u => exact (show False from r).elim
theorem handed_of {v : V} {u : Value} (r : RelV v u) : PySem.W.handedIn u = true := by
  cases v with
  | non => cases (show u = Value.none from r); rfl
  | bl b => cases (show u = Value.bool b from r); rfl
  | int i => obtain ⟨t, e⟩ := (show ∃ t, u = Value.int i t from r); cases e; rfl
  | str x => obtain ⟨t, e⟩ := (show ∃ t, u = Value.str x t from r); cases e; rfl
  | byt b => obtain ⟨t, e⟩ := (show ∃ t, u = Value.bytes b t from r); cases e; rfl
  | flt b => obtain ⟨t, e⟩ := (show ∃ t, u = Value.float b t from r); cases e; rfl
  | ref a => cases (show u = Value.ref a from r); rfl
  | ty n => cases (show u = Value.type n from r); rfl

section
variable {P : Program} {w : World} {H H' : Hp} {h h' : Heap} {a C dx : Addr} {fs fs' : List (Str × V)}
theorem ins_get (hok : HOk P w H h) (e : H a = some (.ins C dx fs)) : ∃ mA, ObjM h a dx C mA ∧ (∀ f, RelO (fs.lookup f) (mA f)) ∧ PySem.Within mA (fs.map (·.1)) ∧ fs.length ≤ 1000 ∧ H dx = some (.own a) := by
  obtain ⟨d, z, ne, ob, mA, n, r, q⟩ := (show ObjOk P w H h a (.ins C dx fs) from hok a _ e)
  exact ⟨mA, ⟨ob, n, ne⟩, r, q, z, d⟩
end

/-! ### what of the text a class must have -/
structure Cls (K : PySem.W.Frag) (C : Addr) : Prop where
  pg : PySem.W.plainGet K C Str.empty = true
  hd : PySem.W.hasDictIn K C = true
  po : PySem.W.plainOver K C = true
  sa : PySem.W.findIn K (.ref C) "__setattr__" = some (some (.builtin "object.__setattr__"))
theorem Cls.get {K : PySem.W.Frag} {C : Addr} (c : Cls K C) (f : Str) : PySem.W.plainGet K C f = true := c.pg
/-- no class of it has the name -/
def NoAttr (K : PySem.W.Frag) (C : Addr) (f : Str) : Prop := PySem.W.findIn K (.ref C) f = some none
theorem NoAttr.taker {K : PySem.W.Frag} {C : Addr} {f : Str} (n : NoAttr K C f) : PySem.W.takerIn K C f = some none := by
  unfold PySem.W.takerIn
  rw [show PySem.W.findIn K (.ref C) f = some none from n]
  rfl
/-- a constant of the class -/
structure Con (K : PySem.W.Frag) (C : Addr) (f : Str) (v : V) (u : Value) : Prop where
  at_ : PySem.W.findIn K (.ref C) f = some (some u)
  rel : RelV v u
  get : PySem.W.specialIn K u "__get__" = some none
  cp : PySem.W.copiedNames.contains f = false
/-- a method: a plain def of the class or of one above it -/
structure Meth (K : PySem.W.Frag) (C : Addr) (m : Str) (f : Addr) : Prop where
  at_ : PySem.W.findIn K (.ref C) m = some (some (.ref f))
  fn : PySem.W.isFn K (.ref f) = true
  kp : PySem.W.keepIn K (.ref f) = true

section
variable {X : Cx} {pins : List (Addr × Obj)} {σ : St} {H : Hp} {s : Shared} {a C dx : Addr} {fs : List (Str × V)} {f : Str} {v : V} {A : Around} {E : Value → Shared → Prop}

theorem getattr_ok {b : Bool} {Q : Value → Shared → Prop} (I : Inv X pins σ H s) (e : H a = some (.ins C dx fs)) (c : Cls X.K C) (n : NoAttr X.K C f) (l : fs.lookup f = some v)
    (h : ∀ u s', Inv X pins σ H s' → RelV v u → Q u s') : wpAny (model X.prog X.w) A (getAttr (.ref a) f b) Q E s := by
  obtain ⟨mA, O, r, _, _, _⟩ := ins_get I.hok e
  obtain ⟨u, hu, ru⟩ := RelO.some_of (v := v) (o := mA f) (by rw [← l]; exact r f)
  exact get_map I.kIn O (c.get f) c.hd n hu (handed_of ru) (h u _ (I.tok _) ru)

theorem getcon_ok {b : Bool} {u : Value} {Q : Value → Shared → Prop} (I : Inv X pins σ H s) (e : H a = some (.ins C dx fs)) (c : Cls X.K C) (k : Con X.K C f v u) (l : fs.lookup f = none)
    (h : ∀ s', Inv X pins σ H s' → Q u s') : wpAny (model X.prog X.w) A (getAttr (.ref a) f b) Q E s := by
  obtain ⟨mA, O, r, _, _, _⟩ := ins_get I.hok e
  have hn : mA f = none := RelO.none_of (by rw [← l]; exact r f)
  exact get_const I.kIn O (c.get f) c.hd k.at_ k.get k.cp hn (handed_of k.rel) (h _ (I.tok _))

theorem getmeth_ok {m : Str} {g : Addr} {pl : Sem Bool} {Q : Value × List Value → Shared → Prop} (I : Inv X pins σ H s) (e : H a = some (.ins C dx fs)) (c : Cls X.K C) (k : Meth X.K C m g) (l : fs.lookup m = none)
    (h : Q (.ref g, [.ref a]) s) : wpAny (model X.prog X.w) A (getMethod (.ref a) m pl) Q E s := by
  obtain ⟨mA, O, r, _, _, _⟩ := ins_get I.hok e
  have hn : mA m = none := RelO.none_of (by rw [← l]; exact r m)
  exact get_meth I.kIn O (c.get m) k.at_ k.fn hn h

theorem setattr_ok {y : V} {u : Value} {Q : Unit → Shared → Prop} (I : Inv X pins σ H s) (e : H a = some (.ins C dx fs)) (c : Cls X.K C) (n : NoAttr X.K C f) (hl : fs.length < 1000) (ry : RelV y u)
    (h : ∀ s', Inv X pins σ (upd H a (.ins C dx (putF f y fs))) s' → Q () s') : wpAny (model X.prog X.w) A (setAttr (.ref a) f u) Q E s := by
  obtain ⟨mA, O, r, wi, _, ho⟩ := ins_get I.hok e
  have hz : (fs.map (·.1)).length ≤ sizeLine := by rw [List.length_map, sizeLine_eq]; omega
  refine set_map I.kIn O c.sa c.po n.taker c.hd wi hz fun h' O' sb => h _ ?_
  have hd : ∃ o, h'.get? dx = some o := let ⟨o, _, _, e', _⟩ := O'.ns; ⟨o, e'⟩
  refine I.write (x := a) (e := dx) (by rw [e]; exact True.intro) (.inr ho) (fun b q hb z => (sb.2 b hb).trans z) hd ?_
  refine ⟨by rw [upd_ne O.ne]; exact ho, ?_, O.ne, O'.obj, _, O'.ns, fun g => ?_, fun g hg => ?_⟩
  · have := length_putF f y fs; omega
  · show RelO ((putF f y fs).lookup g) (if g = f then some u else mA g)
    rw [lookup_putF]
    by_cases q : g = f
    · rw [if_pos q, if_pos q]; exact ry
    · rw [if_neg q, if_neg q]; exact r g
  · by_cases q : g = f
    · rw [q]; exact (keys_putF f y fs).1
    · refine (keys_putF f y fs).2 g (wi g fun z => hg ?_)
      show (if g = f then some u else mA g) = none
      rw [if_neg q]; exact z

/-- a new instance, tracked, without attributes -/
theorem Inv.made (I : Inv X pins σ H s) : Inv X pins σ (upd (upd H s.heap.objs.size (.own (s.heap.objs.size + 1))) (s.heap.objs.size + 1) (.ins C s.heap.objs.size []))
    { s with heap := (s.heap.push PySem.W.emptyDict).push (PySem.W.instObj C s.heap.objs.size) } := by
  have e1 : (s.heap.push PySem.W.emptyDict).get? s.heap.objs.size = some PySem.W.emptyDict := Heap.get?_push_size s.heap rfl
  have e2 : ((s.heap.push PySem.W.emptyDict).push (PySem.W.instObj C s.heap.objs.size)).get? (s.heap.objs.size + 1) = some (PySem.W.instObj C s.heap.objs.size) := by
    have := Heap.get?_push_size (s.heap.push PySem.W.emptyDict) (o := PySem.W.instObj C s.heap.objs.size) rfl
    rwa [Heap.size_push] at this
  have e3 : (s.heap.push PySem.W.emptyDict).Ns s.heap.objs.size (fun _ => none) := ⟨PySem.W.emptyDict, #[], _, e1, rfl, (fun e he => absurd he (by simp)), fun _ => rfl⟩
  have I1 := I.laid (a := s.heap.objs.size) (o := .own (s.heap.objs.size + 1)) (h' := s.heap.push PySem.W.emptyDict) (t' := s.toks) (fun b u q => Heap.get?_push_of_some _ q) (Nat.le_refl _) ⟨_, e1⟩
  refine I1.laid (a := s.heap.objs.size + 1) (o := .ins C s.heap.objs.size []) (t' := s.toks) (fun b u q => Heap.get?_push_of_some _ q) (Nat.le_of_eq (Heap.size_push _ _)) ?_
  have ne : s.heap.objs.size ≠ s.heap.objs.size + 1 := Nat.ne_of_lt (Nat.lt_succ_self _)
  refine ⟨by rw [upd_ne ne, upd_same], Nat.zero_le _, ne, e2, fun _ => none, (Heap.Ns1.of_empty e3).at fun o q => Heap.get?_push_of_some _ q, fun _ => True.intro, fun y hy => absurd rfl hy⟩

/-- e.f where nothing but the object is asked: through attributeBase (super) and the last hold -/
theorem attr_of {prog : Program} {w : World} {env : Env} {e : Expr} {f : Str} {pos : Pos} {s : Shared} {Q : Value → Shared → Prop} (hb : attributeBase e f env (eval e env) = eval e env)
    (h : wpAny (model prog w) A (eval e env) (fun o s₁ => wpAny (model prog w) A (getAttr o f true) Q E s₁) E s) : wpAny (model prog w) A (eval (.Attribute e f pos) env) Q E s :=
  Attribute_any_ h (by rw [arm_eval_Attribute, hb])
end

/-! ### readings and rules -/
/-- e.f, an attribute of the instance -/
def tFld (K : PySem.W.Frag) (ta : TE) (f : Str) : TE := fun σ H Q => ta σ H fun x H1 => ∃ a C dx fs v, x = .ref a ∧ H1 a = some (.ins C dx fs) ∧ Cls K C ∧ NoAttr K C f ∧ fs.lookup f = some v ∧ Q v H1
/-- e.f, a constant of the class -/
def tCon (K : PySem.W.Frag) (ta : TE) (f : Str) : TE := fun σ H Q => ta σ H fun x H1 => ∃ a C dx fs v u, x = .ref a ∧ H1 a = some (.ins C dx fs) ∧ Cls K C ∧ Con K C f v u ∧ fs.lookup f = none ∧ Q v H1
/-- e.f = value -/
def sFld (K : PySem.W.Frag) (ta tv : TE) (f : Str) : TS := fun D σ H => tv σ H fun y H1 => ta σ H1 fun x H2 => ∃ a C dx fs, x = .ref a ∧ H2 a = some (.ins C dx fs) ∧ Cls K C ∧ NoAttr K C f ∧ fs.length < 1000 ∧
  D.nx σ (upd H2 a (.ins C dx (putF f y fs)))
/-- an augmented operator on two values -/
def InOp (X : Cx) (op : Operator) (rd : V → V → Hp → VK → Prop) : Prop :=
  ∀ (pins : List (Addr × Obj)) (s : Shared) (σ : St) (H : Hp) (x y : V) (u v : Value) (Q : VK), Inv X pins σ H s → RelV x u → RelV y v → rd x y H Q → wpAny (model X.prog X.w) X.A (inplaceOp op u v) (EP X pins σ Q) X.xe s
/-- e.f op= value -/
def sFldAug (K : PySem.W.Frag) (ta tv : TE) (rd : V → V → Hp → VK → Prop) (f : Str) : TS := fun D σ H => ta σ H fun x H1 => ∃ a C dx fs v, x = .ref a ∧ H1 a = some (.ins C dx fs) ∧ Cls K C ∧ NoAttr K C f ∧ fs.lookup f = some v ∧
  tv σ H1 fun y H2 => rd v y H2 fun z H3 => ∃ dx' fs', H3 a = some (.ins C dx' fs') ∧ fs'.length < 1000 ∧ D.nx σ (upd H3 a (.ins C dx' (putF f z fs')))

section
variable {X : Cx} {o e value : Expr} {f : Str} {pos pos' tpos : Pos} {ta tv : TE}
theorem pe_fld (he : PE X e ta) (hb : attributeBase e f X.env (eval e X.env) = eval e X.env) : PE X (.Attribute e f pos) (tFld X.K ta f) := by
  intro pins s σ H Q I h
  refine attr_of hb (thn (he pins s σ H _ I h) fun u s1 ⟨x, H1, I1, rx, a, C, dx, fs, v, ex, ea, c, n, l, q⟩ => ?_)
  subst ex
  obtain rfl : u = Value.ref a := rx
  exact getattr_ok I1 ea c n l fun u' s2 I2 ru => ⟨v, H1, I2, ru, q⟩
theorem pe_con (he : PE X e ta) (hb : attributeBase e f X.env (eval e X.env) = eval e X.env) : PE X (.Attribute e f pos) (tCon X.K ta f) := by
  intro pins s σ H Q I h
  refine attr_of hb (thn (he pins s σ H _ I h) fun u s1 ⟨x, H1, I1, rx, a, C, dx, fs, v, u0, ex, ea, c, k, l, q⟩ => ?_)
  subst ex
  obtain rfl : u = Value.ref a := rx
  exact getcon_ok I1 ea c k l fun s2 I2 => ⟨v, H1, I2, k.rel, q⟩
theorem ps_fld (ha : PE X o ta) (hv : PE X value tv) (hs : swapsWith value (some (.Attribute o f pos')) pos.line X.env = pure false) : PS X (.Assign [.Attribute o f pos'] value pos) (sFld X.K ta tv f) := by
  intro pins s σ H D I h
  refine plainObj_wpAny_Assign_Attribute (thn (hv pins s σ H _ I h) fun u s1 ⟨y, H1, I1, ry, q⟩ => thn (ha pins s1 σ H1 _ I1 q) fun ov s2 ⟨x, H2, I2, rx, a, C, dx, fs, ex, ea, c, n, l, q2⟩ => ?_) hs
  subst ex
  obtain rfl : ov = Value.ref a := rx
  exact setattr_ok I2 ea c n l ry fun s3 I3 => ⟨σ, _, I3, q2⟩
theorem ps_fldaug {op : Operator} {rd : V → V → Hp → VK → Prop} (ha : PE X o ta) (hv : PE X value tv) (hop : InOp X op rd) : PS X (.AugAssign (.Attribute o f tpos) op value pos) (sFldAug X.K ta tv rd f) := by
  intro pins s σ H D I h
  refine wpAny_AugAssign_AttributeAny (thn (ha pins s σ H _ I h) fun ov s1 ⟨x, H1, I1, rx, a, C, dx, fs, v, ex, ea, c, n, l, q⟩ => ?_)
  subst ex
  obtain rfl : ov = Value.ref a := rx
  refine getattr_ok I1 ea c n l fun u s2 I2 ru => thn (hv pins s2 σ H1 _ I2 q) fun w3 s3 ⟨y, H2, I3, ry, q3⟩ => thn (hop pins s3 σ H2 v y u w3 _ I3 ru ry q3) fun w4 s4 ⟨z, H3, I4, rz, dx', fs', ea', l', q4⟩ => ?_
  exact setattr_ok I4 ea' c n l' rz fun s5 I5 => ⟨σ, _, I5, q4⟩
def rAdd : V → V → Hp → VK → Prop := fun x y H Q => ∃ i j, x = .int i ∧ y = .int j ∧ Q (.int (i + j)) H
def rSub : V → V → Hp → VK → Prop := fun x y H Q => ∃ i j, x = .int i ∧ y = .int j ∧ Q (.int (i - j)) H
theorem in_add : InOp X .Add rAdd := by
  rintro pins s σ H x y u v Q I rx ry ⟨i, j, rfl, rfl, q⟩
  obtain ⟨t, rfl⟩ := (show ∃ t, u = Value.int i t from rx)
  obtain ⟨t', rfl⟩ := (show ∃ t', v = Value.int j t' from ry)
  exact PyProof.Rows.iadd_int ⟨.int (i + j), H, I.tok _, ⟨_, rfl⟩, q⟩
theorem in_sub : InOp X .Sub rSub := by
  rintro pins s σ H x y u v Q I rx ry ⟨i, j, rfl, rfl, q⟩
  obtain ⟨t, rfl⟩ := (show ∃ t, u = Value.int i t from rx)
  obtain ⟨t', rfl⟩ := (show ∃ t', v = Value.int j t' from ry)
  exact PyProof.Rows.isub_int ⟨.int (i - j), H, I.tok _, ⟨_, rfl⟩, q⟩

/-- what is between an instance and its method: the tree of a method call -/
theorem methcall_of {pl : Sem Bool} {m : Str} {apos : Pos} {args : List Expr} {pins : List (Addr × Obj)} {s : Shared} {σ : St} {H : Hp} {Q : Value → Shared → Prop} {te : TE} (he : PE X e te) (I : Inv X pins σ H s)
    (h : te σ H fun x H1 => ∃ a C dx fs g, x = .ref a ∧ H1 a = some (.ins C dx fs) ∧ Cls X.K C ∧ Meth X.K C m g ∧ fs.lookup m = none ∧
      ∀ s1, Inv X pins σ H1 s1 → wpAny (model X.prog X.w) X.A (callWith pos (.ref g) [.ref a] (backTo pos (starEach args X.env)) (backToKw pos (keywordEach [] X.env))) Q X.xe s1)
    (ht : eval (.Call (.Attribute e m apos) args [] pos) X.env = (do
      let ov ← eval e X.env
      standAt apos.atName
      let (f, first) ← holding [ov] (getMethod ov m pl)
      callWith pos f first (backTo pos (starEach args X.env)) (backToKw pos (keywordEach [] X.env)))) :
    wpAny (model X.prog X.w) X.A (eval (.Call (.Attribute e m apos) args [] pos) X.env) Q X.xe s := by
  refine PySem.W.methodCall_KW (pl := pl) (thn (he pins s σ H _ I h) fun u s1 ⟨x, H1, I1, rx, a, C, dx, fs, g, ex, ea, c, k, l, q⟩ => ?_) ht
  subst ex
  obtain rfl : u = Value.ref a := rx
  exact getmeth_ok I1 ea c k l (q s1 I1)
end

/-! ### isinstance -/
section
variable {X : Cx} {pins : List (Addr × Obj)} {σ : St} {H : Hp} {s : Shared} {A : Around} {E : Value → Shared → Prop} {Q : Value → Shared → Prop} {c : Value} {b : Bool}
/-- the type of a value, as the fragment's deciders take it; for an instance its class -/
inductive TyOf (K : PySem.W.Frag) (H : Hp) : V → Value → Prop where
  | non : TyOf K H .non (.type "NoneType")
  | bl (x : Bool) : TyOf K H (.bl x) (.type "bool")
  | int (i : Int) : TyOf K H (.int i) (.type "int")
  | str (x : Str) : TyOf K H (.str x) (.type "str")
  | flt (x : UInt64) : TyOf K H (.flt x) (.type "float")
  | lst {a : Addr} {xs : List V} (e : H a = some (.lst xs)) : TyOf K H (.ref a) (.type "list")
  | frz {a : Addr} {o : Obj} {xs : List V} (e : H a = some (.frz o (.lst xs))) : TyOf K H (.ref a) (.type "list")
  | tup {a : Addr} {xs : List V} (e : H a = some (.tup xs)) : TyOf K H (.ref a) (.type "tuple")
  | dK {a : Addr} {kvs : List (Key × V)} (e : H a = some (.dK kvs)) : TyOf K H (.ref a) (.type "dict")
  | dT {a : Addr} {kvs : List (List Key × V)} (e : H a = some (.dT kvs)) : TyOf K H (.ref a) (.type "dict")
  | ins {a C dx : Addr} {fs : List (Str × V)} (e : H a = some (.ins C dx fs)) (cl : Cls K C) (ha : PySem.W.findIn K (.ref C) "__class__" = some (some (.builtin "object.__class__")))
      (hn : PySem.W.specialIn K (.builtin "object.__class__") "__get__" = some (some (.builtin "getset_descriptor.__get__"))) (htk : PySem.W.takesIn K (.builtin "object.__class__") = some true)
      (hm : PySem.W.mroIn K C (.type "object") = some true) : TyOf K H (.ref a) (.ref C)
/-- isinstance(x, c) for one class c, a built-in or an own one: kitOne's answer -/
theorem isinst_ok {x : V} {u t : Value} (I : Inv X pins σ H s) (rx : RelV x u) (ty : TyOf X.K H x t) (e : PySem.W.kitOne X.K t c = some b) (h : ∀ tk, Q (.bool b) { s with toks := tk }) :
    wpAny (model X.prog X.w) A (call (.builtin "isinstance") [u, c]) Q E s := by
  cases ty with
  | non => cases (show u = Value.none from rx); exact PySem.W.kia_one PySem.W.kitx_none I.kIn True.intro e (fun z => nomatch z) h
  | bl y => cases (show u = Value.bool y from rx); exact PySem.W.kia_one PySem.W.kitx_bool I.kIn True.intro e (fun z => nomatch z) h
  | int i => obtain ⟨t, q⟩ := (show ∃ t, u = Value.int i t from rx); cases q; exact PySem.W.kia_one PySem.W.kitx_int I.kIn True.intro e (fun z => nomatch z) h
  | str y => obtain ⟨t, q⟩ := (show ∃ t, u = Value.str y t from rx); cases q; exact PySem.W.kia_one PySem.W.kitx_str I.kIn True.intro e (fun z => nomatch z) h
  | flt y => obtain ⟨t, q⟩ := (show ∃ t, u = Value.float y t from rx); cases q; exact PySem.W.kia_one PySem.W.kitx_float I.kIn True.intro e (fun z => nomatch z) h
  | @lst a xs ea =>
    cases (show u = Value.ref a from rx)
    obtain ⟨_, _, n, _, h1⟩ := (show ObjOk X.prog X.w H s.heap a (.lst xs) from I.hok a _ ea)
    exact PySem.W.kia_one PySem.W.kitx_list I.kIn ⟨_, h1, rfl⟩ e (fun z => nomatch z) h
  | @frz a ob xs ea =>
    cases (show u = Value.ref a from rx)
    obtain ⟨_, _, _, n, _, h1⟩ := (show ObjOk X.prog X.w H s.heap a (.frz ob (.lst xs)) from I.hok a _ ea)
    exact PySem.W.kia_one PySem.W.kitx_list I.kIn ⟨_, h1, rfl⟩ e (fun z => nomatch z) h
  | @tup a xs ea =>
    cases (show u = Value.ref a from rx)
    obtain ⟨_, _, _, p⟩ := (show ObjOk X.prog X.w H s.heap a (.tup xs) from I.hok a _ ea)
    obtain ⟨⟨o, h1, h2, _⟩, _⟩ := p
    exact PySem.W.kia_one PySem.W.kitx_tuple I.kIn ⟨o, h1, h2⟩ e (fun z => nomatch z) h
  | @dK a kvs ea =>
    cases (show u = Value.ref a from rx)
    obtain ⟨_, _, vs, _, p⟩ := (show ObjOk X.prog X.w H s.heap a (.dK kvs) from I.hok a _ ea)
    obtain ⟨o, es, ep, h1, h2, _⟩ := p
    exact PySem.W.kia_one PySem.W.kitx_dict I.kIn ⟨o, h1, h2.1⟩ e (fun z => nomatch z) h
  | @dT a kvs ea =>
    cases (show u = Value.ref a from rx)
    obtain ⟨_, _, xs, _, o, es, ep, h1, h2, _⟩ := (show ObjOk X.prog X.w H s.heap a (.dT kvs) from I.hok a _ ea)
    exact PySem.W.kia_one PySem.W.kitx_dict I.kIn ⟨o, h1, h2.1⟩ e (fun z => nomatch z) h
  | @ins a C dx fs ea cl ha hn htk hm =>
    cases (show u = Value.ref a from rx)
    obtain ⟨mA, O, _⟩ := ins_get I.hok ea
    obtain ⟨od, J, _⟩ := O.look
    exact PySem.W.kia_one (PySem.W.kitx_own (cl.get _) cl.hd ha hn htk hm) I.kIn J e (fun z => nomatch z) h
end
end L2

namespace L2
open PySem PySem.Spec PyProof.Rows

/-! ### room -/
structure Room (k : Nat) (A : Around) : Prop where
  hd : A.handled = none
  dp : A.depth + 3 * k + 5 < recursionLimit
  un : A.units + 16 * k + 200 < cLine
theorem Room.mono {j k : Nat} {A : Around} (r : Room k A) (h : j ≤ k) : Room j A := ⟨r.hd, by have := r.dp; omega, by have := r.un; omega⟩
theorem Room.deeper {k : Nat} {A : Around} (r : Room (k + 1) A) (env : Env) : Room k (A.deeper env) :=
  ⟨r.hd, by have := r.dp; show A.depth + 1 + 3 * k + 5 < _; omega, by have := r.un; show A.units + 3 + 16 * k + 200 < _; omega⟩
theorem Room.in1 {k : Nat} {A : Around} (r : Room (k + 1) A) : Room k A.in1 :=
  ⟨r.hd, by have := r.dp; show A.depth + 3 * k + 5 < _; omega, by have := r.un; show A.units + 1 + 16 * k + 200 < _; omega⟩
theorem make_depth {A : Around} {C : Addr} {us : List Value} {kw : List (Str × Value)} : (A.under (.builtin "type.__call__" ⟨.ref C :: us, kw⟩)).depth = A.depth + 1 := by
  first | rfl | simp [Around.under, Code.weight, Code.isCreation, Code.isGuard, Code.isCaller, Code.frames, Code.isFrame, guardIds]
theorem make_units {A : Around} {C : Addr} {us : List Value} {kw : List (Str × Value)} : (A.under (.builtin "type.__call__" ⟨.ref C :: us, kw⟩)).units = A.units + 1 := by
  first | rfl | simp [Around.under, Code.cUnits, Code.frames, Code.isFrame]
theorem Room.make {k : Nat} {A : Around} (r : Room (k + 1) A) (C : Addr) (us : List Value) (kw : List (Str × Value)) : Room k (A.under (.builtin "type.__call__" ⟨.ref C :: us, kw⟩)) :=
  ⟨r.hd, by have := r.dp; rw [make_depth]; omega, by have := r.un; rw [make_units]; omega⟩
theorem Room.depth {k : Nat} {A : Around} (r : Room k A) : A.depth < recursionLimit := by have := r.dp; omega
theorem Room.units {k : Nat} {A : Around} (r : Room k A) : A.units + 64 < cLine := by have := r.un; omega
theorem Room.units0 {k : Nat} {A : Around} (r : Room k A) : A.units < cLine := by have := r.un; omega

/-! ### argument lists and displays -/
def tNil : TA := fun _ H Q => Q [] H
def tCons (ta : TE) (tr : TA) : TA := fun σ H Q => ta σ H fun x H1 => tr σ H1 fun xs H2 => Q (x :: xs) H2
section
variable {X : Cx} {e : Expr} {es : List Expr} {te : TE} {t : TA} {pos : Pos}
theorem pa_nil : PA X [] tNil := fun _ _ _ _ H Q I h => Calls.spliced_nil ⟨[], H, I, .nil, h⟩
theorem pa_cons (ha : PE X e te) (hr : PA X es t) (hs : starEach (e :: es) X.env = (false, eval e X.env) :: starEach es X.env := by rfl) : PA X (e :: es) (tCons te t) := by
  intro pos pins s σ H Q I h
  rw [hs]
  show wpAny _ _ (spliced ((false, eval e X.env) :: backTo pos (starEach es X.env))) _ _ s
  refine Calls.spliced_cons (thn (ha pins s σ H _ I h) fun u s1 ⟨x, H1, I1, r1, q1⟩ => ?_)
  exact thn (hr pos pins s1 σ H1 _ I1 q1) fun us s2 ⟨xs, H2, I2, r2, q2⟩ => ⟨x :: xs, H2, I2, .cons r1 r2, q2⟩

/-- a tuple, a list of written items -/
def tTup (t : TA) : TE := fun σ H Q => t σ H fun xs H1 => xs.length ≤ sizeLine ∧ ∀ p, H1 p = none → Q (.ref p) (upd H1 p (.tup xs))
def tLst (t : TA) : TE := fun σ H Q => t σ H fun xs H1 => xs.length ≤ sizeLine ∧ ∀ p, H1 p = none → Q (.ref p) (upd H1 p (.lst xs))
theorem pe_tup {x1} (h : PA X es t) : PE X (.Tuple es x1 pos) (tTup t) := by
  intro pins s σ H Q I hq
  refine wpAny_Tuple_spliced (thn (h pos pins s σ H _ I hq) fun us s1 ⟨xs, H1, I1, r, z, q⟩ => ⟨by rw [← r.length]; exact z, ?_⟩)
  have hf : H1 s1.heap.objs.size = none := I1.hok.fresh (Nat.le_refl _)
  refine ⟨.ref s1.heap.objs.size, upd H1 s1.heap.objs.size (.tup xs), I1.laid (t' := s1.toks) (fun b u e => Heap.get?_push_of_some _ e) (Nat.le_refl _) ?_, rfl, q _ hf⟩
  exact ⟨z, us, r, ⟨_, Heap.get?_push_size _ rfl, rfl, _, rfl⟩, NoD.new _ rfl⟩
theorem pe_lst (h : PA X es t) : PE X (.List es pos) (tLst t) := by
  intro pins s σ H Q I hq
  refine wpAny_List_spliced (thn (h pos pins s σ H _ I hq) fun us s1 ⟨xs, H1, I1, r, z, q⟩ => ⟨by rw [← r.length]; exact z, ?_⟩)
  have hf : H1 s1.heap.objs.size = none := I1.hok.fresh (Nat.le_refl _)
  refine ⟨.ref s1.heap.objs.size, upd H1 s1.heap.objs.size (.lst xs), I1.laid (t' := s1.toks) (fun b u e => Heap.get?_push_of_some _ e) (Nat.le_refl _) ?_, rfl, q _ hf⟩
  exact ⟨z, us, 0, r, Heap.get?_push_size _ rfl⟩
end

/-! ### what a def promises -/
/-- a def's promise: the bound arguments in the parameters' order, the heap, the wanted end, the wanted exception -/
abbrev Sp := List V → Hp → VK → XK → Prop
/-- how an exception lies behind a call (file 08 gives it): the callers' frames, abstract heap and state ahead of the call, the wish, the exception, the state -/
abbrev CXT := List Env → Hp → Shared → XK → Value → Shared → Prop

/-- the state at a call -/
structure Env0 (P : Program) (w : World) (K : PySem.W.Frag) (mg : Str → Option Value) (base : Heap) (A : Around) (outer : List Env) (s : Shared) (H : Hp) : Prop where
  frames : A.frames = some outer
  mod : Mod K mg base
  bs : ∀ b o, base.get? b = some o → s.heap.get? b = some o ∧ H b = none
  bsz : base.objs.size ≤ s.heap.objs.size
  funs : s.heap.FunFrames base outer
  frf : ∀ b ∈ frs outer, H b = none
  hok : HOk P w H s.heap
  bare : AllBare s.gens
/-- a call's end -/
def CE (outer : List Env) (P : Program) (w : World) (H : Hp) (s : Shared) (Q : VK) (u : Value) (s' : Shared) : Prop :=
  ∃ v H', s'.os = s.os ∧ AllBare s'.gens ∧ Un (frs outer) [] H H' s.heap s'.heap ∧ HOk P w H' s'.heap ∧ RelV v u ∧ Q v H'
def CR (CX : CXT) (outer : List Env) (P : Program) (w : World) (H : Hp) (s : Shared) (Q : VK) (E : XK) (r : Result) (s' : Shared) : Prop :=
  match r with
  | .ok (.ret u) => CE outer P w H s Q u s'
  | .ok _ => False
  | .error e => CX outer H s E e s'
structure FnOk (P : Program) (w : World) (K : PySem.W.Frag) (mg : Str → Option Value) (base : Heap) (CX : CXT) (k : Nat) (f : Addr) (fd : FuncData) (ps : List Str) (sp : Sp) : Prop where
  len : ∀ vs H Q E, sp vs H Q E → vs.length = ps.length
  run : ∀ (A : Around) (outer : List Env) (s : Shared) (H : Hp) (args : Args) (us : List Value) (vs : List V) (Q : VK) (E : XK), Room k A → Env0 P w K mg base A outer s H → BindsTo s fd args (ps.zip us) → Vals vs us → sp vs H Q E →
    codeAny (model P w) A (.call (.ref f) args) (CR CX outer P w H s Q E) s
theorem FnOk.mono {P : Program} {w : World} {K : PySem.W.Frag} {mg : Str → Option Value} {base : Heap} {CX : CXT} {j k : Nat} {f : Addr} {fd : FuncData} {ps : List Str} {sp : Sp} (F : FnOk P w K mg base CX j f fd ps sp) (h : j ≤ k) :
    FnOk P w K mg base CX k f fd ps sp := ⟨F.len, fun A outer s H args us vs Q E hr => F.run A outer s H args us vs Q E (hr.mono h)⟩
/-- a weaker promise -/
theorem FnOk.imp {P : Program} {w : World} {K : PySem.W.Frag} {mg : Str → Option Value} {base : Heap} {CX : CXT} {k : Nat} {f : Addr} {fd : FuncData} {ps : List Str} {sp sp' : Sp} (F : FnOk P w K mg base CX k f fd ps sp)
    (h : ∀ vs H Q E, sp' vs H Q E → sp vs H Q E) : FnOk P w K mg base CX k f fd ps sp' :=
  ⟨fun vs H Q E q => F.len vs H Q E (h _ _ _ _ q), fun A outer s H args us vs Q E hr he hb hv hs => F.run A outer s H args us vs Q E hr he hb hv (h _ _ _ _ hs)⟩

theorem Env0.make {P : Program} {w : World} {K : PySem.W.Frag} {mg : Str → Option Value} {base : Heap} {A : Around} {outer : List Env} {s : Shared} {H : Hp} (e : Env0 P w K mg base A outer s H) (C : Addr) (us : List Value) (kw : List (Str × Value)) :
    Env0 P w K mg base (A.under (.builtin "type.__call__" ⟨.ref C :: us, kw⟩)) outer s H := ⟨by first | exact e.frames | (simpa [Around.under, Code.envs, Code.isFrame, pushEnvs] using e.frames), e.mod, e.bs, e.bsz, e.funs, e.frf, e.hok, e.bare⟩
theorem Env0.in1 {P : Program} {w : World} {K : PySem.W.Frag} {mg : Str → Option Value} {base : Heap} {A : Around} {outer : List Env} {s : Shared} {H : Hp} (e : Env0 P w K mg base A outer s H) :
    Env0 P w K mg base A.in1 outer s H := ⟨e.frames, e.mod, e.bs, e.bsz, e.funs, e.frf, e.hok, e.bare⟩

section
variable {X : Cx} {pins : List (Addr × Obj)} {σ : St} {H : Hp} {s s' : Shared}
/-- from a body: what a callee wants -/
theorem Inv.env0 (I : Inv X pins σ H s) : Env0 X.prog X.w X.K X.mg X.base X.A X.stack s H :=
  ⟨I.ok.frames, I.ok.mod, I.bs, Nat.le_trans I.ok.bsz I.sz, I.stack, I.stkFree, I.hok, I.bare⟩
/-- behind a call -/
theorem Inv.after {Q : VK} {u : Value} (I : Inv X pins σ H s) (h : CE X.stack X.prog X.w H s Q u s') : EP X pins σ Q u s' := by
  obtain ⟨v, H', os, bare, un, hok, r, q⟩ := h
  obtain ⟨hh, g, d, t, os'⟩ := s'
  obtain rfl : os' = s.os := os
  exact ⟨v, H', I.call (h' := hh) (g' := g) (d' := d) (t' := t) (ch := []) un hok bare (fun b z => absurd z (by simp)), r, q⟩
end

/-! ### calls -/
/-- f(..): the written arguments, then the defaults dvs; E: what is wanted of an exception -/
def tCall (sp : Sp) (dvs : List V) (E : XK) (t : TA) : TE := fun σ H Q => t σ H fun vs H1 => sp (vs ++ dvs) H1 Q E
/-- o.m(..) of an instance of the class at C -/
def tMeth (C : Addr) (m : Str) (sp : Sp) (dvs : List V) (E : XK) (ta : TE) (t : TA) : TE := fun σ H Q => ta σ H fun x H1 => ∃ a dx fs, x = .ref a ∧ H1 a = some (.ins C dx fs) ∧ fs.lookup m = none ∧
  t σ H1 fun vs H2 => sp (x :: (vs ++ dvs)) H2 Q E
/-- C(..): a new instance and its dict, then __init__ -/
def tMake (C : Addr) (sp : Sp) (dvs : List V) (E : XK) (t : TA) : TE := fun σ H Q => t σ H fun vs H1 => ∀ x dx, H1 x = none → H1 dx = none → dx ≠ x →
  sp (.ref x :: (vs ++ dvs)) (upd (upd H1 dx (.own x)) x (.ins C dx [])) (fun v H2 => v = .non ∧ Q (.ref x) H2) E

/-- how the parameters are bound: us the positional arguments, kw the keywords' values by name, ds the defaults that fill up -/
def Binds (K : PySem.W.Frag) (fd : FuncData) (ps : List Str) (ds : List Value) : Prop :=
  ∀ (s : Shared) (us : List Value), K.In s.heap → (us ++ ds).length = ps.length → BindsTo s fd ⟨us, []⟩ (ps.zip (us ++ ds))
/-- every parameter is given -/
theorem Binds.all {K : PySem.W.Frag} {fd : FuncData} {ps : List Str} (h : ∀ us : List Value, us.length = ps.length → bindArgs fd ⟨us, []⟩ = pure (ps.zip us)) : Binds K fd ps [] := fun s us _ hl => by
  rw [List.append_nil] at hl ⊢
  exact .of_eq (h us hl)

/-- an exception of a callee reaches what this body wants of exceptions -/
def Passes (CX : CXT) (X : Cx) (E : XK) : Prop := ∀ (pins : List (Addr × Obj)) (σ : St) (H : Hp) (s : Shared) (e : Value) (s' : Shared), Inv X pins σ H s → CX X.stack H s E e s' → X.xe e s'

section
variable {X : Cx} {CX : CXT} {k : Nat} {f C : Addr} {fd : FuncData} {ps : List Str} {sp : Sp} {dvs : List V} {ds : List Value} {E : XK} {x m : Str} {p pos apos : Pos} {e o : Expr} {es : List Expr} {ta : TE} {t : TA}

/-- the callee runs -/
theorem run_fn {pins : List (Addr × Obj)} {σ : St} {H : Hp} {s : Shared} {Q : VK} {us : List Value} {vs : List V} (F : FnOk X.prog X.w X.K X.mg X.base CX k f fd ps sp) (hr : Room k X.A) (hb : Binds X.K fd ps ds) (hd : Vals dvs ds) (hx : Passes CX X E)
    (I : Inv X pins σ H s) (r : Vals vs us) (h : sp (vs ++ dvs) H Q E) : wpAny (model X.prog X.w) X.A (call (.ref f) us) (EP X pins σ Q) X.xe s := by
  have r2 : Vals (vs ++ dvs) (us ++ ds) := r.append hd
  have hl : (us ++ ds).length = ps.length := by rw [← r2.length]; exact F.len _ _ _ _ h
  refine wpAny_call (codeAny_mono (F.run X.A X.stack s H ⟨us, []⟩ (us ++ ds) (vs ++ dvs) Q E hr I.env0 (hb s us I.kIn hl) r2 h) fun r s' hq => ?_)
  cases r with
  | error e => exact hx pins σ H s e s' I hq
  | ok fl =>
    cases fl with
    | ret u => exact I.after hq
    | next => exact False.elim hq
    | brk => exact False.elim hq
    | cont => exact False.elim hq

theorem pe_call (F : FnOk X.prog X.w X.K X.mg X.base CX k f fd ps sp) (hr : Room k X.A) (hg : Gl X x) (hm : X.mg x = some (.ref f)) (hk : PySem.W.keepIn X.K (.ref f) = true) (hb : Binds X.K fd ps ds) (hd : Vals dvs ds) (hx : Passes CX X E)
    (ha : PA X (e :: es) t) (hdb : (x == ("__debug__" : Str)) = false := by decide) (he : starEach (e :: es) X.env = (false, eval e X.env) :: starEach es X.env := by rfl) (hpl : (backTo pos (starEach es X.env)).any (·.1) = false := by rfl) :
    PE X (.Call (.Name x p) (e :: es) [] pos) (tCall sp dvs E t) := by
  intro pins s σ H Q I h
  refine wpAny_Call_Name_kw (ld_glob I hg hm ?_ hdb)
  refine PySem.W.callWith_K (h₀ := X.base) I.ok.mod.kin hk (thn (ha pos pins s σ H _ I h) fun us s1 ⟨vs, H1, I1, r, q⟩ => ⟨I1.kIn, ?_⟩) he hpl
  exact run_fn F hr hb hd hx I1 r q
theorem pe_call0 (F : FnOk X.prog X.w X.K X.mg X.base CX k f fd ps sp) (hr : Room k X.A) (hg : Gl X x) (hm : X.mg x = some (.ref f)) (hk : PySem.W.keepIn X.K (.ref f) = true) (hb : Binds X.K fd ps ds) (hd : Vals dvs ds) (hx : Passes CX X E)
    (hdb : (x == ("__debug__" : Str)) = false := by decide) : PE X (.Call (.Name x p) [] [] pos) (tCall sp dvs E tNil) := by
  intro pins s σ H Q I h
  refine wpAny_Call_Name_kw (ld_glob I hg hm ?_ hdb)
  exact PySem.W.callWith_K0 I.kIn hk (run_fn (us := []) F hr hb hd hx I .nil h)

/-- o.m(e, ..) -/
theorem pe_meth {pl : Sem Bool} (he : PE X o ta) (c : Cls X.K C) (hm : Meth X.K C m f) (F : FnOk X.prog X.w X.K X.mg X.base CX k f fd ps sp) (hr : Room k X.A) (hb : Binds X.K fd ps ds) (hd : Vals dvs ds) (hx : Passes CX X E) (ha : PA X (e :: es) t)
    (hst : starEach (e :: es) X.env = (false, eval e X.env) :: starEach es X.env := by rfl) (hpl : (backTo pos (starEach es X.env)).any (·.1) = false := by rfl)
    (ht : eval (.Call (.Attribute o m apos) (e :: es) [] pos) X.env = (do
      let ov ← eval o X.env
      standAt apos.atName
      let (f, first) ← holding [ov] (getMethod ov m pl)
      callWith pos f first (backTo pos (starEach (e :: es) X.env)) (backToKw pos (keywordEach [] X.env))) := by rfl) :
    PE X (.Call (.Attribute o m apos) (e :: es) [] pos) (tMeth C m sp dvs E ta t) := by
  intro pins s σ H Q I h
  refine PySem.W.methodCall_KW (pl := pl) (thn (he pins s σ H _ I h) fun u s1 ⟨x, H1, I1, rx, a, dx, fs, ex, ea, l, q⟩ => ?_) ht
  subst ex
  obtain rfl : u = Value.ref a := rx
  refine getmeth_ok I1 ea c hm l ?_
  refine PySem.W.callWith_K (first := [.ref a]) (h₀ := X.base) I.ok.mod.kin hm.kp (thn (ha pos pins s1 σ H1 _ I1 q) fun us s2 ⟨vs, H2, I2, r, q2⟩ => ⟨I2.kIn, ?_⟩) hst hpl
  exact run_fn (us := .ref a :: us) (vs := .ref a :: vs) F hr hb hd hx I2 (.cons rfl r) q2
/-- o.m() -/
theorem pe_meth0 {pl : Sem Bool} (he : PE X o ta) (c : Cls X.K C) (hm : Meth X.K C m f) (F : FnOk X.prog X.w X.K X.mg X.base CX k f fd ps sp) (hr : Room k X.A) (hb : Binds X.K fd ps ds) (hd : Vals dvs ds) (hx : Passes CX X E)
    (ht : eval (.Call (.Attribute o m apos) [] [] pos) X.env = (do
      let ov ← eval o X.env
      standAt apos.atName
      let (f, first) ← holding [ov] (getMethod ov m pl)
      callWith pos f first (backTo pos (starEach [] X.env)) (backToKw pos (keywordEach [] X.env))) := by rfl) :
    PE X (.Call (.Attribute o m apos) [] [] pos) (tMeth C m sp dvs E ta tNil) := by
  intro pins s σ H Q I h
  refine PySem.W.methodCall_KW (pl := pl) (thn (he pins s σ H _ I h) fun u s1 ⟨x, H1, I1, rx, a, dx, fs, ex, ea, l, q⟩ => ?_) ht
  subst ex
  obtain rfl : u = Value.ref a := rx
  refine getmeth_ok I1 ea c hm l ?_
  exact PySem.W.callWith_K0 (first := [.ref a]) I1.kIn hm.kp (run_fn (us := [.ref a]) (vs := [.ref a]) F hr hb hd hx I1 (.cons rfl .nil) q)

/-- what a class must have to be made -/
structure Mk (K : PySem.W.Frag) (C f : Addr) : Prop where
  makes : PySem.W.makesIn K C = true
  init : PySem.W.findIn K (.ref C) "__init__" = some (some (.ref f))
  fn : PySem.W.isFn K (.ref f) = true
  kp : PySem.W.keepIn K (.ref C) = true

theorem run_make {pins : List (Addr × Obj)} {σ : St} {H : Hp} {s : Shared} {Q : VK} {us : List Value} {vs : List V} (M : Mk X.K C f) (F : FnOk X.prog X.w X.K X.mg X.base CX k f fd ps sp) (hr : Room (k + 1) X.A) (hb : Binds X.K fd ps ds) (hd : Vals dvs ds)
    (hx : Passes CX X E) (I : Inv X pins σ H s) (r : Vals vs us)
    (h : ∀ x dx, H x = none → H dx = none → dx ≠ x → sp (.ref x :: (vs ++ dvs)) (upd (upd H dx (.own x)) x (.ins C dx [])) (fun v H2 => v = .non ∧ Q (.ref x) H2) E) :
    wpAny (model X.prog X.w) X.A (call (.ref C) us) (EP X pins σ Q) X.xe s := by
  have hq := h (s.heap.objs.size + 1) s.heap.objs.size (I.hok.fresh (Nat.le_succ _)) (I.hok.fresh (Nat.le_refl _)) (Nat.ne_of_lt (Nat.lt_succ_self _))
  have I2 := Inv.made (C := C) I
  have r2 : Vals (V.ref (s.heap.objs.size + 1) :: (vs ++ dvs)) (Value.ref (s.heap.objs.size + 1) :: (us ++ ds)) := .cons rfl (r.append hd)
  have hl : (Value.ref (s.heap.objs.size + 1) :: us ++ ds).length = ps.length := by
    have e := r2.length
    rw [F.len _ _ _ _ hq] at e
    exact e.symm
  refine wpAny_call (make_map (f := f) I.kIn M.makes M.init (beq_iff_eq.mp M.fn) (codeAny_mono (F.run _ X.stack _ _ ⟨Value.ref (s.heap.objs.size + 1) :: us, []⟩ (Value.ref (s.heap.objs.size + 1) :: (us ++ ds)) _ _ E (hr.make C us [])
    (I2.env0.make C us []) (hb _ (Value.ref (s.heap.objs.size + 1) :: us) I2.kIn hl) r2 hq) fun r s' hq' => ?_))
  cases r with
  | error e => exact hx pins σ _ _ e s' I2 hq'
  | ok fl =>
    cases fl with
    | ret u =>
      obtain ⟨v, H', I3, rv, ev, q3⟩ := I2.after hq'
      subst ev
      exact ⟨rv, ⟨V.ref (s.heap.objs.size + 1), H', I3, rfl, q3⟩⟩
    | next => exact False.elim hq'
    | brk => exact False.elim hq'
    | cont => exact False.elim hq'
theorem pe_make (M : Mk X.K C f) (F : FnOk X.prog X.w X.K X.mg X.base CX k f fd ps sp) (hr : Room (k + 1) X.A) (hg : Gl X x) (hm : X.mg x = some (.ref C)) (hb : Binds X.K fd ps ds) (hd : Vals dvs ds) (hx : Passes CX X E)
    (ha : PA X (e :: es) t) (hdb : (x == ("__debug__" : Str)) = false := by decide) (he : starEach (e :: es) X.env = (false, eval e X.env) :: starEach es X.env := by rfl) (hpl : (backTo pos (starEach es X.env)).any (·.1) = false := by rfl) :
    PE X (.Call (.Name x p) (e :: es) [] pos) (tMake C sp dvs E t) := by
  intro pins s σ H Q I h
  refine wpAny_Call_Name_kw (ld_glob I hg hm ?_ hdb)
  refine PySem.W.callWith_K (h₀ := X.base) I.ok.mod.kin M.kp (thn (ha pos pins s σ H _ I h) fun us s1 ⟨vs, H1, I1, r, q⟩ => ⟨I1.kIn, ?_⟩) he hpl
  exact run_make M F hr hb hd hx I1 r q
theorem pe_make0 (M : Mk X.K C f) (F : FnOk X.prog X.w X.K X.mg X.base CX k f fd ps sp) (hr : Room (k + 1) X.A) (hg : Gl X x) (hm : X.mg x = some (.ref C)) (hb : Binds X.K fd ps ds) (hd : Vals dvs ds) (hx : Passes CX X E)
    (hdb : (x == ("__debug__" : Str)) = false := by decide) : PE X (.Call (.Name x p) [] [] pos) (tMake C sp dvs E tNil) := by
  intro pins s σ H Q I h
  refine wpAny_Call_Name_kw (ld_glob I hg hm ?_ hdb)
  exact PySem.W.callWith_K0 I.kIn M.kp (run_make (us := []) M F hr hb hd hx I .nil h)
end

/-! ### keywords -/
/-- the values of the keywords, from the left -/
def PK (X : Cx) (kws : List Keyword) (t : TA) : Prop :=
  ∀ (pos : Pos) (pins : List (Addr × Obj)) (s : Shared) (σ : St) (H : Hp) (Q : List V → Hp → Prop), Inv X pins σ H s → t σ H Q → wpAny (model X.prog X.w) X.A (evalAll ((backToKw pos (keywordEach kws X.env)).map (·.2))) (AP X pins σ Q) X.xe s
section
variable {X : Cx} {CX : CXT} {k : Nat} {f C : Addr} {fd : FuncData} {ps ks : List Str} {sp : Sp} {E : XK} {x m : Str} {p pos apos kpos : Pos} {e o : Expr} {es : List Expr} {kws : List Keyword} {te ta : TE} {t tk : TA} {nm : Option Str}
theorem pk_nil : PK X [] tNil := fun _ _ _ _ H Q I h => wpAny_evalAll_nil ⟨[], H, I, .nil, h⟩
theorem pk_cons (ha : PE X e te) (hr : PK X kws t) : PK X (⟨nm, e, kpos⟩ :: kws) (tCons te t) := by
  intro pos pins s σ H Q I h
  show wpAny _ _ (evalAll ((do let v ← eval e X.env; standAt pos; pure v) :: (backToKw pos (keywordEach kws X.env)).map (·.2))) _ _ s
  refine wpAny_evalAll_cons (wpAny_bind (thn (ha pins s σ H _ I h) fun u s1 ⟨x, H1, I1, r1, q1⟩ => wpAny_bind (wpAny_standAt (wpAny_pure ?_))))
  exact thn (hr pos pins s1 σ H1 _ I1 q1) fun us s2 ⟨xs, H2, I2, r2, q2⟩ => ⟨x :: xs, H2, I2, .cons r1 r2, q2⟩

/-- how a call with keywords binds: g puts the positional values us and the keywords' values ws (names ks) in the parameters' order, defaults among them -/
structure KBinds (K : PySem.W.Frag) (fd : FuncData) (ps ks : List Str) (g : List Value → List Value → List Value) (gV : List V → List V → List V) : Prop where
  to : ∀ (s : Shared) (us ws : List Value), K.In s.heap → (g us ws).length = ps.length → BindsTo s fd ⟨us, ks.zip ws⟩ (ps.zip (g us ws))
  rel : ∀ {vs : List V} {us : List Value} {zs : List V} {ws : List Value}, Vals vs us → Vals zs ws → Vals (gV vs zs) (g us ws)
def tCallK (sp : Sp) (gV : List V → List V → List V) (E : XK) (t tk : TA) : TE := fun σ H Q => t σ H fun vs H1 => tk σ H1 fun zs H2 => sp (gV vs zs) H2 Q E
variable {g : List Value → List Value → List Value} {gV : List V → List V → List V}
theorem run_fnk {pins : List (Addr × Obj)} {σ : St} {H : Hp} {s : Shared} {Q : VK} {us ws : List Value} {vs zs : List V} (F : FnOk X.prog X.w X.K X.mg X.base CX k f fd ps sp) (hr : Room k X.A) (hb : KBinds X.K fd ps ks g gV) (hx : Passes CX X E)
    (I : Inv X pins σ H s) (r : Vals vs us) (rz : Vals zs ws) (h : sp (gV vs zs) H Q E) : wpAny (model X.prog X.w) X.A (call (.ref f) us (ks.zip ws)) (EP X pins σ Q) X.xe s := by
  have r2 := hb.rel r rz
  have hl : (g us ws).length = ps.length := by rw [← r2.length]; exact F.len _ _ _ _ h
  refine wpAny_call (codeAny_mono (F.run X.A X.stack s H ⟨us, ks.zip ws⟩ (g us ws) (gV vs zs) Q E hr I.env0 (hb.to s us ws I.kIn hl) r2 h) fun r s' hq => ?_)
  cases r with
  | error e => exact hx pins σ H s e s' I hq
  | ok fl =>
    cases fl with
    | ret u => exact I.after hq
    | next => exact False.elim hq
    | brk => exact False.elim hq
    | cont => exact False.elim hq
/-- f(e, .., k = v, ..) -/
theorem pe_callK (F : FnOk X.prog X.w X.K X.mg X.base CX k f fd ps sp) (hr : Room k X.A) (hg : Gl X x) (hm : X.mg x = some (.ref f)) (hk : PySem.W.keepIn X.K (.ref f) = true) (hb : KBinds X.K fd ps ks g gV) (hx : Passes CX X E)
    (ha : PA X (e :: es) t) (hkw : PK X kws tk) (hall : (backToKw pos (keywordEach kws X.env)).all (·.1.isSome) = true := by rfl) (hks : (backToKw pos (keywordEach kws X.env)).filterMap (·.1) = ks := by rfl)
    (hdb : (x == ("__debug__" : Str)) = false := by decide) (he : starEach (e :: es) X.env = (false, eval e X.env) :: starEach es X.env := by rfl)
    (hpl : ((backTo pos (starEach (e :: es) X.env)).any (·.1) || (backToKw pos (keywordEach kws X.env)).any (·.1.isNone)) = false := by rfl) :
    PE X (.Call (.Name x p) (e :: es) kws pos) (tCallK sp gV E t tk) := by
  intro pins s σ H Q I h
  refine wpAny_Call_Name_kw (ld_glob I hg hm ?_ hdb)
  refine PySem.W.callWith_KW (h₀ := X.base) I.ok.mod.kin hk hall (thn (ha pos pins s σ H _ I h) fun us s1 ⟨vs, H1, I1, r, q⟩ => ?_) hpl he
  refine thn (hkw pos pins s1 σ H1 _ I1 q) fun ws s2 ⟨zs, H2, I2, rz, q2⟩ => ⟨I2.kIn, ?_⟩
  rw [hks]
  exact run_fnk F hr hb hx I2 r rz q2
end

/-! ### a def's body keeps its promise -/
/-- names: the parameters first -/
structure FnScope (N P : List Str) (sc : Scope) : Prop where
  kind : sc.kind = .function
  co : sc.isCoroutine = false
  gen : sc.isGenerator = false
  nd : N.Nodup
  pre : N.take P.length = P
  par : ∀ x ∈ P, sc.names.lookup x = some .local ∨ sc.names.lookup x = some .cell
  nofree : ∀ y ∈ sc.names, y.2 ≠ .free

theorem bindL_out {kindOf : Str → Option NameKind} {x : Str} : ∀ {binds : List (Str × Value)} {m : Str → Option Value}, (∀ v, (x, v) ∉ binds) → bindL kindOf binds m x = m x
  | [], _, _ => rfl
  | (n, v) :: r, m, h => by
    unfold bindL
    rw [bindL_out fun w hw => h w (List.mem_cons_of_mem _ hw)]
    split
    · have : x ≠ n := by rintro rfl; exact h v List.mem_cons_self
      simp [this]
    · rfl
theorem bindC_out {kindOf : Str → Option NameKind} {x : Str} : ∀ {binds : List (Str × Value)} {m : Str → Option Value}, (∀ v, (x, v) ∉ binds) → bindC kindOf binds m x = m x
  | [], _, _ => rfl
  | (n, v) :: r, m, h => by
    unfold bindC
    rw [bindC_out fun w hw => h w (List.mem_cons_of_mem _ hw)]
    split
    · rfl
    · have : x ≠ n := by rintro rfl; exact h v List.mem_cons_self
      simp [this]
theorem bindL_get {kindOf : Str → Option NameKind} {x : Str} {v : Value} : ∀ {P : List Str} {vs : List Value} {i : Nat} {m : Str → Option Value}, P.Nodup → P[i]? = some x → vs[i]? = some v → kindOf x = some .local →
    bindL kindOf (P.zip vs) m x = some v
  | [], _, _, _, _, h, _, _ => by simp at h
  | _ :: _, [], _, _, _, _, h, _ => by simp at h
  | p :: P, w :: vs, 0, m, nd, h1, h2, hk => by
    simp at h1 h2; subst h1; subst h2
    show bindL kindOf ((p, w) :: P.zip vs) m p = _
    unfold bindL
    rw [bindL_out fun v hv => (List.nodup_cons.mp nd).1 (List.of_mem_zip hv).1, if_pos hk]
    simp
  | p :: P, w :: vs, i + 1, m, nd, h1, h2, hk => by
    show bindL kindOf ((p, w) :: P.zip vs) m x = _
    unfold bindL
    exact bindL_get (i := i) (List.nodup_cons.mp nd).2 (by simpa using h1) (by simpa using h2) hk
theorem bindC_get {kindOf : Str → Option NameKind} {x : Str} {v : Value} : ∀ {P : List Str} {vs : List Value} {i : Nat} {m : Str → Option Value}, P.Nodup → P[i]? = some x → vs[i]? = some v → kindOf x ≠ some .local →
    bindC kindOf (P.zip vs) m x = some v
  | [], _, _, _, _, h, _, _ => by simp at h
  | _ :: _, [], _, _, _, _, h, _ => by simp at h
  | p :: P, w :: vs, 0, m, nd, h1, h2, hk => by
    simp at h1 h2; subst h1; subst h2
    show bindC kindOf ((p, w) :: P.zip vs) m p = _
    unfold bindC
    rw [bindC_out fun v hv => (List.nodup_cons.mp nd).1 (List.of_mem_zip hv).1, if_neg hk]
    simp
  | p :: P, w :: vs, i + 1, m, nd, h1, h2, hk => by
    show bindC kindOf ((p, w) :: P.zip vs) m x = _
    unfold bindC
    exact bindC_get (i := i) (List.nodup_cons.mp nd).2 (by simpa using h1) (by simpa using h2) hk

/-- the names' values at the entry -/
def start (N : List Str) (vs : List V) : St := vs.map some ++ List.replicate (N.length - vs.length) none

/-- the context of a def's body, at its entry; an exception leaves the frame, then lies as CX says -/
def cxOf (CX : CXT) (P : Program) (w : World) (K : PySem.W.Frag) (mg : Str → Option Value) (base : Heap) (N : List Str) (qual : Str) (scope : Scope) (f : Addr) (cd : Value) (A : Around) (outer : List Env) (s : Shared) (H : Hp) (E : XK) : Cx where
  prog := P
  w := w
  K := K
  mg := mg
  base := base
  A := A.deeper (envOfC qual scope s.heap.objs.size f cd)
  N := N
  s₀ := s
  H₀ := H
  env := envOfC qual scope s.heap.objs.size f cd
  outer := outer
  stack := envOfC qual scope s.heap.objs.size f cd :: outer
  ex := []
  calm := true
  fn := fun _ => true
  pn := []
  xe := fun e s' => wpAny (model P w) (A.deeper (envOfC qual scope s.heap.objs.size f cd)) (leaving (envOfC qual scope s.heap.objs.size f cd) e) (fun _ s'' => CX outer H s E e s'') (fun e' s'' => CX outer H s E e' s'') s'

theorem cell_has {sc : Scope} {n : Nat} {x : Str} (h : sc.names.lookup x = some .cell) : ∃ c, (cellsFrom n sc.names []).lookup x = some c := by
  have q := PySem.W.cellsFrom_some sc.names n [] (.inl h)
  exact Option.isSome_iff_exists.mp q

theorem inv_start {CX : CXT} {P : Program} {w : World} {K : PySem.W.Frag} {mg : Str → Option Value} {base : Heap} {N ps : List Str} {qual : Str} {scope : Scope} {f : Addr} {cd : Value} {A : Around} {outer : List Env} {s s1 : Shared} {H : Hp} {E : XK} {us : List Value} {vs : List V}
    (S : FnScope N ps scope) (hd : A.handled = none) (e0 : Env0 P w K mg base A outer s H) (hl : vs.length = ps.length) (r : Vals vs us)
    (x : InCallC s s.heap.objs.size (bindL (envOfC qual scope s.heap.objs.size f cd).kindOf (ps.zip us) fun _ => none) (cellsFrom (s.heap.objs.size + 1) scope.names []) (bindC (envOfC qual scope s.heap.objs.size f cd).kindOf (ps.zip us) fun _ => none) s1) :
    Inv (cxOf CX P w K mg base N qual scope f cd A outer s H E) [] (start N vs) H s1 := by
  have hpl : ps.length ≤ N.length := by have := congrArg List.length S.pre; rw [List.length_take] at this; omega
  obtain ⟨h1, tk, rfl, hk⟩ := x.done
  have noA : ∀ b : Addr, b ∉ (cxOf CX P w K mg base N qual scope f cd A outer s H E).ex := fun b z => absurd (show b ∈ ([] : List Addr) from z) (by simp)
  refine ⟨⟨e0.mod, S.kind, rfl, rfl, Nat.le_refl _, fun y z c h1 h2 => ?_, fun y hy => ?_, fun y c _ h => ?_, fun _ => hd, Around.frames_deeper e0.frames, .inr ⟨rfl, rfl⟩, fun b z => absurd z (noA b), e0.bs, e0.bsz, fun b _ _ => noA b, fun b z => absurd z (noA b), e0.funs, e0.frf⟩,
    rfl, e0.bare, Un.kept hk, ⟨_, x.toInCall.ns, fun i y v h1 h2 h3 => ?_⟩, fun y c h => ⟨_, x.cell y c h⟩, e0.hok.fresh (Nat.le_refl _), fun y c h => ?_, fun p hp => absurd (show p ∈ ([] : List (Addr × Obj)) from hp) (by simp), e0.hok.kept hk, ?_⟩
  · exact name_of_addr x.apart (PySem.mem_of_lookup h1) (PySem.mem_of_lookup h2)
  · have hy : scope.names.lookup y = some .cell ∨ scope.names.lookup y = some .free := hy
    rcases hy with hy | hy
    · exact cell_has hy
    · exact absurd rfl (S.nofree _ (PySem.mem_of_lookup hy))
  · exact Nat.le_of_lt (x.above y c (PySem.mem_of_lookup h))
  · have hi : i < vs.length := by
      unfold start at h2
      by_cases hi : i < vs.length
      · exact hi
      · rw [List.getElem?_append_right (by simpa using hi)] at h2
        rw [List.getElem?_replicate] at h2
        split at h2 <;> cases h2
    have ha : vs[i]? = some v := by
      unfold start at h2
      rw [List.getElem?_append_left (by simpa using hi), List.getElem?_map] at h2
      cases e : vs[i]? with
      | none => rw [e] at h2; cases h2
      | some a => rw [e] at h2; cases h2; rfl
    obtain ⟨u, hu, rv⟩ := r.get ha
    have hp : ps[i]? = some y := by
      rw [← S.pre, List.getElem?_take_of_lt (by omega)]; exact h1
    have ndP : ps.Nodup := by rw [← S.pre]; exact S.nd.sublist (List.take_sublist _ _)
    refine ⟨u, rv, ?_⟩
    rcases S.par y (List.mem_of_getElem? hp) with k | k
    · exact .inl ⟨k, bindL_get ndP hp hu k⟩
    · obtain ⟨c, e⟩ := cell_has (n := s.heap.objs.size + 1) k
      refine .inr ⟨.inl k, c, e, ?_⟩
      have q := x.cell y c e
      rw [bindC_get ndP hp hu (by show scope.names.lookup y ≠ _; rw [k]; decide)] at q
      exact q
  · exact e0.hok.fresh (Nat.le_of_lt (x.above y c (PySem.mem_of_lookup h)))
  · unfold start
    show _ = N.length
    rw [List.length_append, List.length_map, List.length_replicate]
    omega

/-- THE RULE: a def (or a method) of the text, by its body. The body's reading t is chosen for each entry; it is run at the parameters' values -/
theorem fn_of {CX : CXT} {P : Program} {w : World} {K : PySem.W.Frag} {mg : Str → Option Value} {base : Heap} {k : Nat} {f : Addr} {name qual : Str} {params : Arguments} {body : List Stmt} {scope : Scope} {dV kV doc pm cdv ct oc : Value} {an od : Option Addr}
    {osl : Array (Option Value)} {N ps : List Str} {sp : Sp} (lk : K.lookup f = some ⟨oc, od, .func (PySem.W.fnOf name qual params body scope dV kV doc pm an cdv ct), osl⟩) (hcd : PySem.W.codeIn K cdv qual = true) (S : FnScope N ps scope)
    (len : ∀ vs H Q E, sp vs H Q E → vs.length = ps.length)
    (hbody : ∀ (A : Around) (outer : List Env) (s : Shared) (H : Hp) (vs : List V) (Q : VK) (E : XK), Room k (A.deeper (envOfC qual scope s.heap.objs.size f cdv)) → sp vs H Q E →
      ∃ t, PSs (cxOf CX P w K mg base N qual scope f cdv A outer s H E) body t ∧ t { nx := fun _ H' => Q .non H', rt := Q } (start N vs) H) :
    FnOk P w K mg base CX (k + 1) f (PySem.W.fnOf name qual params body scope dV kV doc pm an cdv ct) ps sp := by
  refine ⟨len, fun A outer s H args us vs Q E hr e0 hb r hsp => ?_⟩
  have hl := len _ _ _ _ hsp
  have KX : K.In s.heap := e0.mod.kin.keeps fun b o e => (e0.bs b o e).1
  have lim : s.heap.NoLimit := e0.mod.nolimit.keeps fun b o e => (e0.bs b o e).1
  have hkind : ∀ y ∈ ps.zip us, scope.names.lookup y.1 = some .local ∨ (scope.names.lookup y.1 = some .cell ∧ ((cellsFrom (s.heap.objs.size + 1) scope.names []).lookup y.1).isSome = true) := fun ⟨n, v⟩ hy => by
    rcases S.par n (List.of_mem_zip hy).1 with q | q
    · exact .inl q
    · exact .inr ⟨q, PySem.W.cellsFrom_some _ _ _ (.inl q)⟩
  refine codeAny_call_function hr.depth (KX _ _ lk) rfl S.co S.gen rfl (PySem.W.codeRec_of KX hcd) (hb _ _ _ _ ?_)
  refine wpAny_newFunctionEnv_cells S.kind hkind fun env he s1 x => ?_
  subst he
  refine ⟨lim.keeps x.toInCall.keep, codeAny_func ?_⟩
  obtain ⟨t, ht, hq⟩ := hbody A outer s H vs Q E (hr.deeper _) hsp
  have I : Inv (cxOf CX P w K mg base N qual scope f cdv A outer s H E) [] (start N vs) H s1 := inv_start S hr.hd e0 hl r x
  refine wpAny_mono (ht [] s1 (start N vs) H _ I hq) (fun fl s' hs => ?_) fun e s' hs => hs
  have fin : ∀ {σ' : St} {H' : Hp} {v : V} {u : Value}, Inv (cxOf CX P w K mg base N qual scope f cdv A outer s H E) [] σ' H' s' → RelV v u → Q v H' → CE outer P w H s Q u s' :=
    fun {σ' H' v u} J rv q => ⟨v, H', J.os, J.bare, J.base, J.hok, rv, q⟩
  cases fl with
  | ret u =>
    obtain ⟨v, σ', H', J, rv, q⟩ := hs
    exact fin J rv q
  | next =>
    obtain ⟨σ', H', J, q⟩ := hs
    exact fin (v := V.non) (u := Value.none) J rfl q
  | brk =>
    obtain ⟨_, _, _, q⟩ := hs
    exact False.elim q
  | cont =>
    obtain ⟨_, _, _, q⟩ := hs
    exact False.elim q
end L2

namespace L2
open PySem PySem.Spec PyProof.Rows
section
variable {X : Cx} {x : Str} {p pos : Pos} {e : Expr} {es : List Expr} {t : TA} {id T : String} {r : List V → Hp → VK → Prop}

def tCB (r : List V → Hp → VK → Prop) (t : TA) : TE := fun σ H Q => t σ H fun vs H1 => r vs H1 Q
/-- f(e, ..), f a built-in function -/
theorem pe_callB (hc : CallR X (.builtin id) r) (hg : Gl X x) (hm : X.mg x = none) (hv : bootBuiltins x = some (.builtin id)) (ha : PA X (e :: es) t) (hn : x ≠ "__name__" := by decide) (hdb : (x == ("__debug__" : Str)) = false := by decide)
    (he : starEach (e :: es) X.env = (false, eval e X.env) :: starEach es X.env := by rfl) (hpl : (backTo pos (starEach es X.env)).any (·.1) = false := by rfl) : PE X (.Call (.Name x p) (e :: es) [] pos) (tCB r t) := by
  intro pins s σ H Q I h
  refine wpAny_Call_Name_kw (ld_blt I hg hm hv ?_ hn hdb)
  exact PyProof.Rows.callWith_builtin1 (thn (ha pos pins s σ H _ I h) fun us s1 ⟨vs, H1, I1, r1, q1⟩ => hc pins s1 σ H1 vs us Q I1 r1 q1) he hpl
/-- T(e, ..), T a built-in type -/
theorem pe_callTy (hc : CallR X (.type T) r) (hg : Gl X x) (hm : X.mg x = none) (hv : bootBuiltins x = some (.type T)) (ha : PA X (e :: es) t) (hn : x ≠ "__name__" := by decide) (hdb : (x == ("__debug__" : Str)) = false := by decide)
    (he : starEach (e :: es) X.env = (false, eval e X.env) :: starEach es X.env := by rfl) (hpl : (backTo pos (starEach es X.env)).any (·.1) = false := by rfl) : PE X (.Call (.Name x p) (e :: es) [] pos) (tCB r t) := by
  intro pins s σ H Q I h
  refine wpAny_Call_Name_kw (ld_blt I hg hm hv ?_ hn hdb)
  exact PyProof.Rows.callWith_type1 (thn (ha pos pins s σ H _ I h) fun us s1 ⟨vs, H1, I1, r1, q1⟩ => hc pins s1 σ H1 vs us Q I1 r1 q1) he hpl
/-- T() -/
theorem pe_callTy0 (hc : CallR X (.type T) r) (hg : Gl X x) (hm : X.mg x = none) (hv : bootBuiltins x = some (.type T)) (hn : x ≠ "__name__" := by decide) (hdb : (x == ("__debug__" : Str)) = false := by decide) :
    PE X (.Call (.Name x p) [] [] pos) (tCB r tNil) := by
  intro pins s σ H Q I h
  refine wpAny_Call_Name_kw (ld_blt I hg hm hv ?_ hn hdb)
  exact PyProof.Rows.callWith_type0 (hc pins s σ H [] [] Q I .nil h)
end
end L2

namespace L2
open PySem PySem.Spec PyProof.Rows

/-! ### lists of pairs as tables -/
section
variable {κ : Type} [DecidableEq κ]
def valV (kvs : List (κ × V)) (k : κ) : Option V := (kvs.find? fun kv => decide (kv.1 = k)).map (·.2)
/-- in its place, or at the end -/
def putK (kvs : List (κ × V)) (k : κ) (v : V) : List (κ × V) :=
  if (kvs.any fun kv => decide (kv.1 = k)) = true then kvs.map (fun kv => if kv.1 = k then (kv.1, v) else kv) else kvs ++ [(k, v)]
def dropK (kvs : List (κ × V)) (k : κ) : List (κ × V) := kvs.filter fun kv => decide (kv.1 ≠ k)

theorem valV_nil {k : κ} : valV ([] : List (κ × V)) k = none := rfl
theorem valV_pos {p : κ × V} {r : List (κ × V)} {k : κ} (e : p.1 = k) : valV (p :: r) k = some p.2 := by simp [valV, List.find?_cons, e]
theorem valV_neg {p : κ × V} {r : List (κ × V)} {k : κ} (e : ¬ p.1 = k) : valV (p :: r) k = valV r k := by simp [valV, List.find?_cons, e]
theorem valV_any (k : κ) : ∀ kvs : List (κ × V), (kvs.any fun kv => decide (kv.1 = k)) = (valV kvs k).isSome
  | [] => rfl
  | p :: r => by
    rw [List.any_cons]
    by_cases e : p.1 = k
    · simp only [valV_pos e, decide_eq_true e, Bool.true_or, Option.isSome_some]
    · rw [valV_neg e, decide_eq_false e, Bool.false_or]; exact valV_any k r
theorem valV_map (k j : κ) (y : V) : ∀ kvs : List (κ × V), valV (kvs.map fun kv => if kv.1 = k then (kv.1, y) else kv) j = (valV kvs j).map fun x => if j = k then y else x
  | [] => rfl
  | p :: r => by
    have ih := valV_map k j y r
    rw [List.map_cons]
    by_cases h : p.1 = k
    · rw [if_pos h]
      by_cases e : p.1 = j
      · rw [valV_pos (p := (p.1, y)) e, valV_pos e, Option.map_some, if_pos (e.symm.trans h)]
      · rw [valV_neg (p := (p.1, y)) e, valV_neg e, ih]
    · rw [if_neg h]
      by_cases e : p.1 = j
      · rw [valV_pos (p := p) e, valV_pos e, Option.map_some, if_neg (fun z => h (e.trans z))]
      · rw [valV_neg (p := p) e, valV_neg e, ih]
theorem valV_snoc (k j : κ) (y : V) : ∀ kvs : List (κ × V), valV kvs k = none → valV (kvs ++ [(k, y)]) j = if j = k then some y else valV kvs j
  | [], _ => by
    by_cases e : k = j
    · rw [if_pos e.symm]; exact valV_pos (p := (k, y)) e
    · rw [if_neg (fun z => e z.symm)]; exact valV_neg (p := (k, y)) e
  | p :: r, hn => by
    rw [List.cons_append]
    have hk : ¬ p.1 = k := fun z => by rw [valV_pos z] at hn; cases hn
    rw [valV_neg hk] at hn
    have ih := valV_snoc k j y r hn
    by_cases e : p.1 = j
    · rw [valV_pos e, valV_pos e, if_neg (fun z => hk (e.trans z))]
    · rw [valV_neg e, valV_neg e, ih]
theorem valV_put (kvs : List (κ × V)) (k j : κ) (y : V) : valV (putK kvs k y) j = if j = k then some y else valV kvs j := by
  unfold putK
  by_cases a : (kvs.any fun kv => decide (kv.1 = k)) = true
  · rw [if_pos a, valV_map]
    rw [valV_any] at a
    by_cases e : j = k
    · obtain ⟨x, hx⟩ := Option.isSome_iff_exists.mp a
      rw [if_pos e, e, hx, Option.map_some, if_pos rfl]
    · rw [if_neg e]
      cases valV kvs j with
      | none => rfl
      | some x => rw [Option.map_some, if_neg e]
  · rw [if_neg a]
    refine valV_snoc k j y kvs ?_
    rw [valV_any] at a
    cases q : valV kvs k with
    | none => rfl
    | some x => rw [q] at a; exact (a rfl).elim
theorem length_putK (kvs : List (κ × V)) (k : κ) (v : V) : (putK kvs k v).length ≤ kvs.length + 1 := by
  unfold putK
  split
  · rw [List.length_map]; omega
  · rw [List.length_append, List.length_cons, List.length_nil]; omega
theorem putK_new {kvs : List (κ × V)} {k : κ} (v : V) (h : valV kvs k = none) : putK kvs k v = kvs ++ [(k, v)] := by
  unfold putK
  rw [valV_any, h]
  exact if_neg (by decide)

theorem RelO.isSome_eq {o : Option V} {u : Option Value} (r : RelO o u) : o.isSome = u.isSome := by
  cases o with
  | none => cases u with
    | none => rfl
    | some _ => exact (show False from r).elim
  | some _ => cases u with
    | none => exact (show False from r).elim
    | some _ => rfl
theorem RelO.getD {o : Option V} {u : Option Value} {d : V} {d' : Value} (r : RelO o u) (rd : RelV d d') : RelV (o.getD d) (u.getD d') := by
  cases o with
  | none => cases u with
    | none => exact rd
    | some _ => exact (show False from r).elim
  | some _ => cases u with
    | none => exact (show False from r).elim
    | some _ => exact r

/-- raw tables of the same keys -/
theorem KV.val {kvs : List (κ × V)} {vs : List (κ × Value)} (r : KV kvs vs) (k : κ) : RelO (valV kvs k) (valueAt vs k) := by
  unfold KV at r
  induction r with
  | nil => exact True.intro
  | @cons p q ps qs h t ih =>
    obtain ⟨h1, h2⟩ := h
    by_cases e : p.1 = k
    · have e' : q.1 = k := h1.symm.trans e
      have b : valueAt (q :: qs) k = some q.2 := by simp [valueAt, List.find?_cons, e']
      rw [valV_pos e, b]; exact h2
    · have e' : ¬ q.1 = k := fun z => e (h1.trans z)
      have b : valueAt (q :: qs) k = valueAt qs k := by simp [valueAt, List.find?_cons, e']
      rw [valV_neg e, b]; exact ih
theorem KV.any {kvs : List (κ × V)} {vs : List (κ × Value)} (r : KV kvs vs) (k : κ) : (kvs.any fun kv => decide (kv.1 = k)) = vs.any fun kv => decide (kv.1 = k) := by
  unfold KV at r
  induction r with
  | nil => rfl
  | cons h t ih => rw [List.any_cons, List.any_cons, ih, h.1]
theorem KV.repl {kvs : List (κ × V)} {vs : List (κ × Value)} (r : KV kvs vs) (k : κ) {y : V} {u : Value} (ry : RelV y u) :
    KV (kvs.map fun kv => if kv.1 = k then (kv.1, y) else kv) (vs.map fun kv => if kv.1 = k then (kv.1, u) else kv) := by
  unfold KV at r ⊢
  induction r with
  | nil => exact .nil
  | @cons p q ps qs h t ih =>
    rw [List.map_cons, List.map_cons]
    refine .cons ?_ ih
    obtain ⟨h1, h2⟩ := h
    by_cases e : p.1 = k
    · rw [if_pos e, if_pos (h1.symm.trans e)]; exact ⟨h1, ry⟩
    · rw [if_neg e, if_neg (fun z => e (h1.trans z))]; exact ⟨h1, h2⟩
theorem KV.put {kvs : List (κ × V)} {vs : List (κ × Value)} (r : KV kvs vs) (k : κ) {y : V} {u : Value} (ry : RelV y u) : KV (putK kvs k y) (stored vs k u) := by
  unfold putK stored
  rw [r.any k]
  by_cases e : (vs.any fun kv => decide (kv.1 = k)) = true
  · rw [if_pos e, if_pos e]; exact r.repl k ry
  · rw [if_neg e, if_neg e]; exact Paired.snoc r ⟨rfl, ry⟩
theorem KV.drop {kvs : List (κ × V)} {vs : List (κ × Value)} (r : KV kvs vs) (k : κ) : KV (dropK kvs k) (without vs k) := by
  unfold KV at r ⊢
  unfold dropK without
  induction r with
  | nil => exact .nil
  | @cons p q ps qs h t ih =>
    obtain ⟨h1, h2⟩ := h
    rw [List.filter_cons, List.filter_cons]
    by_cases e : p.1 = k
    · have a : ¬ decide (p.1 ≠ k) = true := by simp [e]
      have b : ¬ decide (q.1 ≠ k) = true := by simp [h1.symm.trans e]
      rw [if_neg a, if_neg b]; exact ih
    · have e' : ¬ q.1 = k := fun z => e (h1.trans z)
      have a : decide (p.1 ≠ k) = true := by simp [e]
      have b : decide (q.1 ≠ k) = true := by simp [e']
      rw [if_pos a, if_pos b]; exact .cons ⟨h1, h2⟩ ih
theorem KV.keys {kvs : List (κ × V)} {vs : List (κ × Value)} (r : KV kvs vs) : kvs.map (·.1) = vs.map (·.1) := by
  unfold KV at r
  induction r with
  | nil => rfl
  | cons h t ih => rw [List.map_cons, List.map_cons, ih, h.1]
theorem KV.length {kvs : List (κ × V)} {vs : List (κ × Value)} (r : KV kvs vs) : kvs.length = vs.length := Paired.length r
theorem dropK_le (kvs : List (κ × V)) (k : κ) : (dropK kvs k).length ≤ kvs.length := List.length_filter_le _ _
end

/-! ### a tracked dict, its keys ints and texts or tuples of these -/
theorem kV_is {P : Program} {w : World} {k : Key} {u : Value} (r : RelV (kV k) u) : (mixKind P w).is k u = true := by
  cases k with
  | inl i => obtain ⟨t, e⟩ := (show ∃ t, u = Value.int i t from r); subst e; exact mixKind_int P w i t
  | inr x => obtain ⟨t, e⟩ := (show ∃ t, u = Value.str x t from r); subst e; exact mixKind_str P w x t
theorem kV_inj {a b : Key} (e : kV a = kV b) : a = b := by
  cases a with
  | inl i => cases b with
    | inl j => have e' : V.int i = V.int j := e; injection e' with e'; rw [e']
    | inr y => exact nomatch (show V.int i = V.str y from e)
  | inr x => cases b with
    | inl j => exact nomatch (show V.str x = V.int j from e)
    | inr y => have e' : V.str x = V.str y := e; injection e' with e'; rw [e']
theorem kVs_inj : ∀ {a b : List Key}, a.map kV = b.map kV → a = b
  | [], [], _ => rfl
  | [], _ :: _, e => by simp at e
  | _ :: _, [], e => by simp at e
  | x :: xs, y :: ys, e => by
    rw [List.map_cons, List.map_cons] at e
    injection e with e1 e2
    rw [kV_inj e1, kVs_inj e2]
theorem items_are {P : Program} {w : World} : ∀ {ks : List Key} {us : List Value}, Vals (ks.map kV) us → ItemsAre (mixKind P w) ks us
  | [], _, r => by rw [List.map_nil] at r; cases r; exact .nil
  | k :: ks, _, r => by
    rw [List.map_cons] at r
    cases r with
    | cons h t => exact .cons (kV_is h) (items_are t)

/-- raw entries of a dict with tuple keys -/
abbrev KT (H : Hp) : List (List Key × V) → List (List Key × Addr × Value) → Prop := Paired fun p q => p.1 = q.1 ∧ H q.2.1 = some (.tup (p.1.map kV)) ∧ RelV p.2 q.2.2
theorem KT.val {H : Hp} {kvs : List (List Key × V)} {xs : List (List Key × Addr × Value)} (r : KT H kvs xs) (k : List Key) : RelO (valV kvs k) ((atKey xs k).map (·.2)) := by
  induction r with
  | nil => exact True.intro
  | @cons p q ps qs h t ih =>
    obtain ⟨h1, _, h2⟩ := h
    by_cases e : p.1 = k
    · have e' : q.1 = k := h1.symm.trans e
      have b : atKey (q :: qs) k = some q.2 := by simp [atKey, List.find?_cons, e']
      rw [valV_pos e, b]; exact h2
    · have e' : ¬ q.1 = k := fun z => e (h1.trans z)
      have b : atKey (q :: qs) k = atKey qs k := by simp [atKey, List.find?_cons, e']
      rw [valV_neg e, b]; exact ih
theorem KT.repl {H : Hp} {kvs : List (List Key × V)} {xs : List (List Key × Addr × Value)} (r : KT H kvs xs) (k : List Key) {y : V} {u : Value} (ry : RelV y u) :
    KT H (kvs.map fun kv => if kv.1 = k then (kv.1, y) else kv) (xs.map (putAt k u)) := by
  induction r with
  | nil => exact .nil
  | @cons p q ps qs h t ih =>
    rw [List.map_cons, List.map_cons]
    refine .cons ?_ ih
    obtain ⟨h1, h2, h3⟩ := h
    unfold putAt
    by_cases e : p.1 = k
    · rw [if_pos e, if_pos (h1.symm.trans e)]; exact ⟨h1, h2, ry⟩
    · rw [if_neg e, if_neg (fun z => e (h1.trans z))]; exact ⟨h1, h2, h3⟩
theorem KT.put {H : Hp} {kvs : List (List Key × V)} {xs : List (List Key × Addr × Value)} (r : KT H kvs xs) (k : List Key) {b : Addr} {y : V} {u : Value} (hb : H b = some (.tup (k.map kV))) (ry : RelV y u) :
    KT H (putK kvs k y) (storedH xs k b u) := by
  have e : (kvs.any fun kv => decide (kv.1 = k)) = (atKey xs k).isSome := by
    rw [valV_any, (r.val k).isSome_eq, Option.isSome_map]
  unfold putK storedH
  rw [e]
  by_cases q : (atKey xs k).isSome = true
  · rw [if_pos q, if_pos q]; exact r.repl k ry
  · rw [if_neg q, if_neg q]; exact Paired.snoc r ⟨rfl, hb, ry⟩
theorem KT.keeps {H H' : Hp} {kvs : List (List Key × V)} {xs : List (List Key × Addr × Value)} (r : KT H kvs xs) (ht : ∀ b ys, H b = some (.tup ys) → H' b = some (.tup ys)) : KT H' kvs xs :=
  Paired.mapP r fun _ _ z => ⟨z.1, ht _ _ z.2.1, z.2.2⟩

section
variable {P : Program} {w : World} {H : Hp} {h : Heap} {a : Addr}
theorem rd_of {u : HO} (ok : HOk P w H h) (e : Rd H a u) : ObjOk P w H h a u := e.ok ok
theorem dk_rd {kvs : List (Key × V)} (ok : HOk P w H h) (e : Rd H a (.dK kvs)) : kvs.length ≤ sizeLine ∧ (a == sysModules) = false ∧ ∃ vs, KV kvs vs ∧ h.DictOf (mixKind P w) a vs :=
  show ObjOk P w H h a (.dK kvs) from rd_of ok e
theorem dk_of {kvs : List (Key × V)} (ok : HOk P w H h) (e : H a = some (.dK kvs)) : kvs.length ≤ sizeLine ∧ (a == sysModules) = false ∧ ∃ vs, KV kvs vs ∧ h.DictOf (mixKind P w) a vs := dk_rd ok (.inl e)
/-- a tracked tuple of ints and texts is a key -/
theorem key_of {ks : List Key} (ok : HOk P w H h) (e : H a = some (.tup (ks.map kV))) : (tupleKind (mixKind P w)).is h ks a := by
  obtain ⟨_, its, r, ⟨o, h1, h2, n, h3⟩, _⟩ := (show ObjOk P w H h a (.tup (ks.map kV)) from ok a _ e)
  exact ⟨o, its.toArray, n, h1, h2, h3, by simpa using items_are r⟩
theorem dt_rd {kvs : List (List Key × V)} (ok : HOk P w H h) (e : Rd H a (.dT kvs)) : kvs.length ≤ sizeLine ∧ (a == sysModules) = false ∧
    ∃ xs, KT H kvs xs ∧ h.DictOfH (tupleKind (mixKind P w)) a xs := by
  obtain ⟨z, y, xs, r, o, es, ep, h1, h2, h3, h4, h5⟩ := (show ObjOk P w H h a (.dT kvs) from rd_of ok e)
  refine ⟨z, y, xs, r, o, es, ep, h1, h2, h3, h4, fun x hx => ?_, h5⟩
  have all : ∀ {l : List (List Key × V)} {m : List (List Key × Addr × Value)}, KT H l m → ∀ x ∈ m, (tupleKind (mixKind P w)).is h x.1 x.2.1 := by
    intro l m q
    induction q with
    | nil => intro x hx; exact nomatch hx
    | @cons p q ps qs hq t ih =>
      intro x hx
      rcases List.mem_cons.mp hx with e | hx
      · subst e
        exact key_of ok (by rw [← hq.1]; exact hq.2.1)
      · exact ih x hx
  exact all r x hx
theorem dt_of {kvs : List (List Key × V)} (ok : HOk P w H h) (e : H a = some (.dT kvs)) : kvs.length ≤ sizeLine ∧ (a == sysModules) = false ∧
    ∃ xs, KT H kvs xs ∧ h.DictOfH (tupleKind (mixKind P w)) a xs := dt_rd ok (.inl e)
end

/-- what the dict at a holds at the key y -/
def DGet (H : Hp) (a : Addr) (y : V) (r : Option V) : Prop :=
  (∃ kvs k, Rd H a (.dK kvs) ∧ y = kV k ∧ r = valV kvs k) ∨ ∃ kvs k b, Rd H a (.dT kvs) ∧ y = .ref b ∧ H b = some (.tup (k.map kV)) ∧ r = valV kvs k
/-- the heap behind a[y] = v -/
def DPut (H : Hp) (a : Addr) (y v : V) (H' : Hp) : Prop :=
  (∃ kvs k, H a = some (.dK kvs) ∧ y = kV k ∧ kvs.length < sizeLine ∧ H' = upd H a (.dK (putK kvs k v))) ∨
  ∃ kvs k b, H a = some (.dT kvs) ∧ y = .ref b ∧ H b = some (.tup (k.map kV)) ∧ kvs.length < sizeLine ∧ H' = upd H a (.dT (putK kvs k v))
theorem DGet.k {H : Hp} {a : Addr} {kvs : List (Key × V)} {k : Key} (e : H a = some (.dK kvs)) : DGet H a (kV k) (valV kvs k) := .inl ⟨kvs, k, .inl e, rfl, rfl⟩
theorem DGet.t {H : Hp} {a b : Addr} {kvs : List (List Key × V)} {k : List Key} (e : H a = some (.dT kvs)) (eb : H b = some (.tup (k.map kV))) : DGet H a (.ref b) (valV kvs k) := .inr ⟨kvs, k, b, .inl e, rfl, eb, rfl⟩
theorem DPut.k {H : Hp} {a : Addr} {kvs : List (Key × V)} {k : Key} {v : V} (e : H a = some (.dK kvs)) (hl : kvs.length < sizeLine) : DPut H a (kV k) v (upd H a (.dK (putK kvs k v))) := .inl ⟨kvs, k, e, rfl, hl, rfl⟩
theorem DPut.t {H : Hp} {a b : Addr} {kvs : List (List Key × V)} {k : List Key} {v : V} (e : H a = some (.dT kvs)) (eb : H b = some (.tup (k.map kV))) (hl : kvs.length < sizeLine) :
    DPut H a (.ref b) v (upd H a (.dT (putK kvs k v))) := .inr ⟨kvs, k, b, e, rfl, eb, hl, rfl⟩

section
variable {X : Cx} {pins : List (Addr × Obj)} {σ : St} {H : Hp} {s : Shared} {a : Addr} {y v : V} {u r : Value} {o : Option V} {A : Around} {E : Value → Shared → Prop}

theorem Inv.big (I : Inv X pins σ H s) : sysModules < s.heap.objs.size := by
  have h : mainGlobals < s.heap.objs.size := (I.mod.glob.keeps I.bk).lt
  exact Nat.lt_trans (by decide) h

/-- d[y], there -/
theorem d_getItem {Q : Value → Shared → Prop} (hu : A.units + 1 < cLine) (I : Inv X pins σ H s) (g : DGet H a y (some v)) (ry : RelV y u) (h : ∀ w' s', Inv X pins σ H s' → RelV v w' → Q w' s') :
    wpAny (model X.prog X.w) A (getItem (.ref a) u) Q E s := by
  rcases g with ⟨kvs, k, e, ey, l⟩ | ⟨kvs, k, b, e, ey, eb, l⟩
  · subst ey
    obtain ⟨z, hd, vs, rel, dd⟩ := dk_rd I.hok e
    obtain ⟨w', hw, rw'⟩ := RelO.some_of (v := v) (o := valueAt vs k) (by rw [l]; exact rel.val k)
    exact wpAny_getItem_of (kV_is ry) dd.mapOf hw (h w' _ (I.tok _) rw')
  · subst ey
    cases (show u = Value.ref b from ry)
    obtain ⟨z, hd, xs, rel, dd⟩ := dt_rd I.hok e
    obtain ⟨w', hw, rw'⟩ := RelO.some_of (v := v) (o := (atKey xs k).map (·.2)) (by rw [l]; exact rel.val k)
    obtain ⟨p, hp, hp2⟩ := Option.map_eq_some_iff.mp hw
    refine wpAny_getItem_heap (tupleKind_room_in1 hu) (key_of I.hok eb) dd hp ?_
    rw [hp2]
    exact h w' _ (I.tok _) rw'
/-- y in d -/
theorem d_in {Q : Value → Shared → Prop} (hu : A.units + 1 < cLine) (I : Inv X pins σ H s) (g : DGet H a y o) (ry : RelV y u) (h : ∀ s', Inv X pins σ H s' → Q (.bool o.isSome) s') :
    wpAny (model X.prog X.w) A (compareOp .In u (.ref a)) Q E s := by
  rcases g with ⟨kvs, k, e, ey, l⟩ | ⟨kvs, k, b, e, ey, eb, l⟩
  · subst ey
    obtain ⟨z, hd, vs, rel, dd⟩ := dk_rd I.hok e
    refine wpAny_in_of (kV_is ry) hd dd.mapOf ?_
    rw [← (rel.val k).isSome_eq, ← l]
    exact h _ (I.tok _)
  · subst ey
    cases (show u = Value.ref b from ry)
    obtain ⟨z, hd, xs, rel, dd⟩ := dt_rd I.hok e
    refine wpAny_in_heap (tupleKind_room_in1 hu) (key_of I.hok eb) hd dd ?_
    have q := (rel.val k).isSome_eq
    rw [Option.isSome_map] at q
    rw [← q, ← l]
    exact h _ (I.tok _)
theorem d_notIn {Q : Value → Shared → Prop} (hu : A.units + 1 < cLine) (I : Inv X pins σ H s) (g : DGet H a y o) (ry : RelV y u) (h : ∀ s', Inv X pins σ H s' → Q (.bool (!o.isSome)) s') :
    wpAny (model X.prog X.w) A (compareOp .NotIn u (.ref a)) Q E s := by
  rcases g with ⟨kvs, k, e, ey, l⟩ | ⟨kvs, k, b, e, ey, eb, l⟩
  · subst ey
    obtain ⟨z, hd, vs, rel, dd⟩ := dk_rd I.hok e
    refine wpAny_notIn_of (kV_is ry) hd dd.mapOf ?_
    rw [← (rel.val k).isSome_eq, ← l]
    exact h _ (I.tok _)
  · subst ey
    cases (show u = Value.ref b from ry)
    obtain ⟨z, hd, xs, rel, dd⟩ := dt_rd I.hok e
    refine wpAny_notIn_heap (tupleKind_room_in1 hu) (key_of I.hok eb) hd dd ?_
    have q := (rel.val k).isSome_eq
    rw [Option.isSome_map] at q
    rw [← q, ← l]
    exact h _ (I.tok _)
/-- a dict's object is replaced -/
theorem d_write {h' : Heap} {t' : Nat} {ob : HO} (I : Inv X pins σ H s) (mu : Mut (H a)) (hs : Heap.SameBut a s.heap h') (he : ∃ q, h'.get? a = some q) (new : ObjOk X.prog X.w (upd H a ob) h' a ob) :
    Inv X pins σ (upd H a ob) { s with heap := h', toks := t' } :=
  I.write (x := a) (e := a) mu (.inl rfl) (fun b q hb z => (hs.2 b hb).trans z) he new
theorem dk_new {P : Program} {w : World} {H' : Hp} {h' : Heap} {kvs : List (Key × V)} {vs : List (Key × Value)} (z : kvs.length ≤ sizeLine) (hd : (a == sysModules) = false) (rel : KV kvs vs) (dd : h'.DictOf (mixKind P w) a vs) :
    ObjOk P w H' h' a (.dK kvs) := ⟨z, hd, vs, rel, dd⟩
/-- d[y] = v -/
theorem d_setItem {H' : Hp} {Q : Unit → Shared → Prop} (hu : A.units + 1 < cLine) (I : Inv X pins σ H s) (g : DPut H a y v H') (ry : RelV y u) (rv : RelV v r) (h : ∀ s', Inv X pins σ H' s' → Q () s') :
    wpAny (model X.prog X.w) A (setItem (.ref a) u r) Q E s := by
  rcases g with ⟨kvs, k, e, ey, l, eH⟩ | ⟨kvs, k, b, e, ey, eb, l, eH⟩
  · subst ey eH
    obtain ⟨z, hd, vs, rel, dd⟩ := dk_of I.hok e
    have hz : vs.length ≤ sizeLine := by rw [← rel.length]; exact z
    have hl : (putK kvs k v).length ≤ sizeLine := by have := length_putK kvs k v; omega
    refine wpAny_setItem_pairs (hsz := hz) (kV_is ry) dd fun h' dd' hs => h _ ?_
    have he : ∃ q, h'.get? a = some q := let ⟨q, _, _, hq, _⟩ := dd'; ⟨q, hq⟩
    exact d_write I (by rw [e]; exact True.intro) hs he (dk_new hl hd (rel.put k rv) dd')
  · subst ey eH
    cases (show u = Value.ref b from ry)
    obtain ⟨z, hd, xs, rel, dd⟩ := dt_of I.hok e
    have hz : xs.length ≤ sizeLine := by rw [← Paired.length rel]; exact z
    have hl : (putK kvs k v).length ≤ sizeLine := by have := length_putK kvs k v; omega
    refine wpAny_setItem_heap (hsz := hz) (tupleKind_room_in1 hu) (key_of I.hok eb) dd fun h' dd' hs => h _ ?_
    obtain ⟨q, es, ep, hq, h2, h3, h4, _, h5⟩ := dd'
    refine d_write I (by rw [e]; exact True.intro) hs ⟨q, hq⟩ ⟨hl, hd, _, (rel.put k eb rv).keeps fun c ys ec => ?_, q, es, ep, hq, h2, h3, h4, h5⟩
    rw [upd_ne (ne_of ec e (fun z => nomatch z))]
    exact ec
end

section
variable {X : Cx} {pins : List (Addr × Obj)} {σ : St} {H : Hp} {s : Shared} {a : Addr} {kvs : List (Key × V)} {k : Key} {u : Value} {A : Around} {E : Value → Shared → Prop}
/-- del d[k] -/
theorem d_delItem {Q : Unit → Shared → Prop} (I : Inv X pins σ H s) (e : H a = some (.dK kvs)) (ry : RelV (kV k) u) (l : (valV kvs k).isSome = true) (h : ∀ s', Inv X pins σ (upd H a (.dK (dropK kvs k))) s' → Q () s') :
    wpAny (model X.prog X.w) A (delItem (.ref a) u) Q E s := by
  obtain ⟨z, hd, vs, rel, dd⟩ := dk_of I.hok e
  refine wpAny_delItem_slot dd.typeIs (by decide) PySem.F.slot_dict_delitem
    (call_meetsIn PySem.F.slot_dict_delitem dd.typeIs PySem.F.entry_dict_delitem (PySem.F.args_dict_delitem_2 _ _) (meets_dict_delitem_pairs (mixKind X.prog X.w) a (kV_is ry)) ⟨vs, dd, by rw [← rel.length]; exact z, by rw [← (rel.val k).isSome_eq]; exact l, fun h' dd' hs => h _ ?_⟩)
  have he : ∃ q, h'.get? a = some q := let ⟨q, _, _, hq, _⟩ := dd'; ⟨q, hq⟩
  exact d_write I (by rw [e]; exact True.intro) hs he (dk_new (Nat.le_trans (dropK_le kvs k) z) hd (rel.drop k) dd')
/-- d.pop(k[, x]), there -/
theorem d_pop {v : V} {more : List Value} {Q : Value → Shared → Prop} (I : Inv X pins σ H s) (e : H a = some (.dK kvs)) (ry : RelV (kV k) u) (l : valV kvs k = some v) (hm : more = [] ∨ ∃ x, more = [x])
    (h : ∀ w' s', Inv X pins σ (upd H a (.dK (dropK kvs k))) s' → RelV v w' → Q w' s') : wpAny (model X.prog X.w) A (call (.builtin "dict.pop") (.ref a :: u :: more)) Q E s := by
  obtain ⟨z, hd, vs, rel, dd⟩ := dk_of I.hok e
  obtain ⟨w', hw, rw'⟩ := RelO.some_of (v := v) (o := valueAt vs k) (by rw [← l]; exact rel.val k)
  have hp : (keyPart u).isSome = true := by
    cases k with
    | inl i => obtain ⟨t, q⟩ := (show ∃ t, u = Value.int i t from ry); subst q; rfl
    | inr x => obtain ⟨t, q⟩ := (show ∃ t, u = Value.str x t from ry); subst q; rfl
  have ha : argsOk "dict.pop" ⟨.ref a :: u :: more, []⟩ := by
    rcases hm with q | ⟨x, q⟩
    · subst q; exact PySem.F.args_dict_pop_2 _ _
    · subst q; exact PySem.F.args_dict_pop_3 _ _ _
  refine call_meetsIn PySem.F.slot_dict_pop dd.typeIs PySem.F.entry_dict_pop ha (meets_dict_pop_there (mixKind X.prog X.w) a (kV_is ry) more hm hp)
    ⟨vs, w', dd, by rw [← rel.length]; exact z, hw, fun h' dd' hs => h w' _ ?_ rw'⟩
  have he : ∃ q, h'.get? a = some q := let ⟨q, _, _, hq, _⟩ := dd'; ⟨q, hq⟩
  exact d_write I (by rw [e]; exact True.intro) hs he (dk_new (Nat.le_trans (dropK_le kvs k) z) hd (rel.drop k) dd')
/-- d.pop(k, x), not there -/
theorem d_popD {r : Value} {Q : Value → Shared → Prop} (I : Inv X pins σ H s) (e : H a = some (.dK kvs)) (ry : RelV (kV k) u) (l : valV kvs k = none) (h : ∀ s', Inv X pins σ H s' → Q r s') :
    wpAny (model X.prog X.w) A (call (.builtin "dict.pop") [.ref a, u, r]) Q E s := by
  obtain ⟨z, hd, vs, rel, dd⟩ := dk_of I.hok e
  have hn : valueAt vs k = none := RelO.none_of (by rw [← l]; exact rel.val k)
  have hp : (keyPart u).isSome = true := by
    cases k with
    | inl i => obtain ⟨t, q⟩ := (show ∃ t, u = Value.int i t from ry); subst q; rfl
    | inr x => obtain ⟨t, q⟩ := (show ∃ t, u = Value.str x t from ry); subst q; rfl
  exact call_meetsIn PySem.F.slot_dict_pop dd.typeIs PySem.F.entry_dict_pop (PySem.F.args_dict_pop_3 _ _ _) (meets_dict_pop_default (mixKind X.prog X.w) a (kV_is ry) hd hp r) ⟨vs, dd, hn, h _ (I.tok _)⟩
/-- d.clear() -/
theorem d_clear {Q : Value → Shared → Prop} (I : Inv X pins σ H s) (e : H a = some (.dK kvs)) (h : ∀ s', Inv X pins σ (upd H a (.dK [])) s' → Q .none s') : wpAny (model X.prog X.w) A (call (.builtin "dict.clear") [.ref a]) Q E s := by
  obtain ⟨z, hd, vs, rel, dd⟩ := dk_of I.hok e
  refine call_meetsIn PySem.F.slot_dict_clear dd.typeIs PySem.F.entry_dict_clear (PySem.F.args_dict_clear_1 _) (meets_dict_clear (mixKind X.prog X.w) a) ⟨vs, dd, by rw [← rel.length]; exact z, fun h' dd' hs => h _ ?_⟩
  have he : ∃ q, h'.get? a = some q := let ⟨q, _, _, hq, _⟩ := dd'; ⟨q, hq⟩
  exact d_write (t' := s.toks) I (by rw [e]; exact True.intro) hs he (dk_new (Nat.zero_le _) hd .nil dd')
/-- len(d) -/
theorem d_len {Q : Value → Shared → Prop} (I : Inv X pins σ H s) (e : Rd H a (.dK kvs)) (h : ∀ t s', Inv X pins σ H s' → Q (.int kvs.length t) s') : wpAny (model X.prog X.w) A (call (.builtin "len") [.ref a]) Q E s := by
  obtain ⟨z, hd, vs, rel, dd⟩ := dk_rd I.hok e
  refine call_len_dict hd dd (by rw [← rel.length]; rw [sizeLine_eq] at z; omega) ?_
  rw [← rel.length]
  exact h _ _ (I.tok _)
/-- if d -/
theorem d_truth {Q : Bool → Shared → Prop} (I : Inv X pins σ H s) (e : Rd H a (.dK kvs)) (h : ∀ s', Inv X pins σ H s' → Q (!kvs.isEmpty) s') : wpAny (model X.prog X.w) A (truthy (.ref a)) Q E s := by
  obtain ⟨z, hd, vs, rel, dd⟩ := dk_rd I.hok e
  refine wpAny_truthy_dict hd dd (by rw [← rel.length]; rw [sizeLine_eq] at z; omega) ?_
  have q : kvs.isEmpty = vs.isEmpty := by cases rel <;> rfl
  rw [← q]
  exact h _ (I.tok _)
end

/-! ### readings and rules -/
/-- the element of a subscription, not a slice -/
def NoSl (i : Expr) : Prop := ∀ ov iv, subscripted i false ov iv = operate [ov, iv] (getItem ov iv)
theorem subD_of {prog : Program} {w : World} {A : Around} {E : Value → Shared → Prop} {s : Shared} {env : Env} {value slice : Expr} {pos : Pos} {T id : String} {Q : Value → Shared → Prop}
    (hl : typeLookup (.type T) "__getitem__" = pure (some (.builtin id))) (hs : NoSl slice)
    (h : wpAny (model prog w) A (eval value env) (fun o s₁ => wpAny (model prog w) A (eval slice env) (fun i s₂ => s₂.TypeIs o T ∧ wpAny (model prog w) A (getItem o i) Q E s₂) E s₁) E s) :
    wpAny (model prog w) A (eval (.Subscript value slice pos) env) Q E s := by
  refine Subscript_ (wpAny_mono h (fun o s₁ h₁ => wpAny_mono h₁ (fun i s₂ h₂ => ?_) fun _ _ x => x) fun _ _ x => x)
  obtain ⟨hT, h₂⟩ := h₂
  unfold subscriptTail
  refine wpAny_bind ?_
  rw [getitemInPython_of_ne hT.not_modules]
  refine wpAny_bind (wpAny_specialOf hT hl ?_)
  have fin : wpAny (model prog w) A (subscripted slice false o i) (fun r s₃ => wpAny (model prog w) A (letTemporaryGo value o r >>= fun _ => pure r) Q E s₃) E s₂ := by
    rw [hs o i]
    exact wpAny_operating (wpAny_mono h₂ (fun r s₃ h₃ => wpAny_bind (wpAny_letTemporaryGo (wpAny_pure h₃))) fun _ _ x => x)
  first
    | exact wpAny_pure (wpAny_bind fin)
    | exact wpAny_bind (wpAny_pure (wpAny_bind fin))
    | exact wpAny_bind fin

theorem dict_typeIs {X : Cx} {pins : List (Addr × Obj)} {σ : St} {H : Hp} {s : Shared} {a : Addr} {y : V} {o : Option V} (I : Inv X pins σ H s) (g : DGet H a y o) : s.TypeIs (.ref a) "dict" := by
  rcases g with ⟨kvs, k, e, _, _⟩ | ⟨kvs, k, b, e, _, _, _⟩
  · obtain ⟨_, _, vs, _, dd⟩ := dk_rd I.hok e
    exact dd.typeIs
  · obtain ⟨_, _, xs, _, dd⟩ := dt_rd I.hok e
    exact dd.typeIs
theorem dict_noDict {X : Cx} {pins : List (Addr × Obj)} {σ : St} {H : Hp} {s : Shared} {a : Addr} {y : V} {o : Option V} (I : Inv X pins σ H s) (g : DGet H a y o) :
    ∀ b, Value.ref a = .ref b → ∃ ob, s.heap.get? b = some ob ∧ ob.dict = none := fun b q => by
  cases q
  rcases g with ⟨kvs, k, e, _, _⟩ | ⟨kvs, k, b, e, _, _, _⟩
  · obtain ⟨_, _, vs, _, ob, _, _, h1, h2, _⟩ := dk_rd I.hok e
    exact ⟨ob, h1, h2.2.1⟩
  · obtain ⟨_, _, xs, _, ob, _, _, h1, h2, _⟩ := dt_rd I.hok e
    exact ⟨ob, h1, h2.2.1⟩

/-- d[y] -/
def tDGet (td ty : TE) : TE := fun σ H Q => td σ H fun x H1 => ty σ H1 fun y H2 => ∃ a v, x = .ref a ∧ DGet H2 a y (some v) ∧ Q v H2
/-- y in d, y not in d -/
def tDIn (ty td : TE) : TE := fun σ H Q => ty σ H fun y H1 => td σ H1 fun x H2 => ∃ a o, x = .ref a ∧ DGet H2 a y o ∧ Q (.bl o.isSome) H2
def tDNotIn (ty td : TE) : TE := fun σ H Q => ty σ H fun y H1 => td σ H1 fun x H2 => ∃ a o, x = .ref a ∧ DGet H2 a y o ∧ Q (.bl (!o.isSome)) H2
/-- d[y] = v -/
def sDPut (td ty tv : TE) : TS := fun D σ H => tv σ H fun v H1 => td σ H1 fun x H2 => ty σ H2 fun y H3 => ∃ a H4, x = .ref a ∧ DPut H3 a y v H4 ∧ D.nx σ H4
/-- d[y] op= v -/
def sDAug (td ty tv : TE) (rd : V → V → Hp → VK → Prop) : TS := fun D σ H => td σ H fun x H1 => ty σ H1 fun y H2 => ∃ a v, x = .ref a ∧ DGet H2 a y (some v) ∧
  tv σ H2 fun y2 H3 => rd v y2 H3 fun z H4 => ∃ H5, DPut H4 a y z H5 ∧ D.nx σ H5
/-- del d[y] -/
def sDDel (td ty : TE) : TS := fun D σ H => td σ H fun x H1 => ty σ H1 fun y H2 => ∃ a kvs k, x = .ref a ∧ H2 a = some (.dK kvs) ∧ y = kV k ∧ (valV kvs k).isSome = true ∧ D.nx σ (upd H2 a (.dK (dropK kvs k)))

section
variable {X : Cx} {o i e value : Expr} {pos pos' tpos : Pos} {td ty tv : TE}
theorem pe_dget (hu : X.A.units + 1 < cLine) (ho : PE X o td) (hi : PE X i ty) (hs : NoSl i) : PE X (.Subscript o i pos) (tDGet td ty) := by
  intro pins s σ H Q I h
  refine subD_of PySem.F.slot_dict_getitem.lookup hs (thn (ho pins s σ H _ I h) fun u s1 ⟨x, H1, I1, rx, q1⟩ => thn (hi pins s1 σ H1 _ I1 q1) fun iv s2 ⟨y, H2, I2, ry, a, v, ex, g, q2⟩ => ?_)
  subst ex
  obtain rfl : u = Value.ref a := rx
  exact ⟨dict_typeIs I2 g, d_getItem hu I2 g ry fun w' s3 I3 rw' => ⟨v, H2, I3, rw', q2⟩⟩
theorem pc_din (hu : X.A.units + 1 < cLine) (hi : PE X i ty) (ho : PE X o td) : PC X .In i o (tDIn ty td) := by
  intro pins s σ H Q I h
  refine thn (hi pins s σ H _ I h) fun iv s1 ⟨y, H1, I1, ry, q1⟩ => thn (ho pins s1 σ H1 _ I1 q1) fun u s2 ⟨x, H2, I2, rx, a, ov, ex, g, q2⟩ => ?_
  subst ex
  obtain rfl : u = Value.ref a := rx
  exact d_in hu I2 g ry fun s3 I3 => ⟨.bl ov.isSome, H2, I3, rfl, q2⟩
theorem pc_dnotin (hu : X.A.units + 1 < cLine) (hi : PE X i ty) (ho : PE X o td) : PC X .NotIn i o (tDNotIn ty td) := by
  intro pins s σ H Q I h
  refine thn (hi pins s σ H _ I h) fun iv s1 ⟨y, H1, I1, ry, q1⟩ => thn (ho pins s1 σ H1 _ I1 q1) fun u s2 ⟨x, H2, I2, rx, a, ov, ex, g, q2⟩ => ?_
  subst ex
  obtain rfl : u = Value.ref a := rx
  exact d_notIn hu I2 g ry fun s3 I3 => ⟨.bl (!ov.isSome), H2, I3, rfl, q2⟩
theorem ps_dput (hu : X.A.units + 1 < cLine) (ho : PE X o td) (hi : PE X i ty) (hv : PE X value tv) (hs : swapsWith value (some (.Subscript o i pos')) pos.line X.env = pure false) :
    PS X (.Assign [.Subscript o i pos'] value pos) (sDPut td ty tv) := by
  intro pins s σ H D I h
  refine wpAny_Assign_Subscript (thn (hv pins s σ H _ I h) fun r s1 ⟨v, H1, I1, rv, q1⟩ => thn (ho pins s1 σ H1 _ I1 q1) fun u s2 ⟨x, H2, I2, rx, q2⟩ => thn (hi pins s2 σ H2 _ I2 q2) fun iv s3 ⟨y, H3, I3, ry, a, H4, ex, g, q3⟩ => ?_) hs
  subst ex
  obtain rfl : u = Value.ref a := rx
  exact d_setItem hu I3 g ry rv fun s4 I4 => ⟨σ, H4, I4, q3⟩
theorem ps_daug {op : Operator} {rd : V → V → Hp → VK → Prop} (hu : X.A.units + 1 < cLine) (ho : PE X o td) (hi : PE X i ty) (hv : PE X value tv) (hop : InOp X op rd)
    (ha : ∀ ov iv new, augStore i ov iv new = (do holding [new, ov, iv] (setItem ov iv new); release [new, ov, iv] []; pure .next)) : PS X (.AugAssign (.Subscript o i tpos) op value pos) (sDAug td ty tv rd) := by
  intro pins s σ H D I h
  refine wpAny_AugAssign_SubscriptAny (thn (ho pins s σ H _ I h) fun u s1 ⟨x, H1, I1, rx, q1⟩ => thn (hi pins s1 σ H1 _ I1 q1) fun iv s2 ⟨y, H2, I2, ry, a, v, ex, g, q2⟩ => ?_) ha
  subst ex
  obtain rfl : u = Value.ref a := rx
  refine d_getItem hu I2 g ry fun w' s3 I3 rw' => thn (hv pins s3 σ H2 _ I3 q2) fun w2 s4 ⟨y2, H3, I4, ry2, q3⟩ => thn (hop pins s4 σ H3 v y2 w' w2 _ I4 rw' ry2 q3) fun w3 s5 ⟨z, H4, I5, rz, H5, g5, q4⟩ => ?_
  exact d_setItem hu I5 g5 ry rz fun s6 I6 => ⟨σ, H5, I6, q4⟩
theorem ps_ddel (ho : PE X o td) (hi : PE X i ty) : PS X (.Delete [.Subscript o i tpos] pos) (sDDel td ty) := by
  intro pins s σ H D I h
  refine wpAny_Delete (wpAny_deleteEach_cons (wpAny_delete_Subscript (thn (ho pins s σ H _ I h) fun u s1 ⟨x, H1, I1, rx, q1⟩ => thn (hi pins s1 σ H1 _ I1 q1) fun iv s2 ⟨y, H2, I2, ry, a, kvs, k, ex, e, ey, l, q2⟩ => ?_)))
  subst ex ey
  obtain rfl : u = Value.ref a := rx
  exact d_delItem I2 e ry l fun s3 I3 => wpAny_deleteEach_nil ⟨σ, _, I3, q2⟩
end

/-! ### displays -/
theorem dk_empty {P : Program} {w : World} {H : Hp} (h : Heap) (hb : sysModules < h.objs.size) : ObjOk P w H (h.push { cls := .type "dict", data := .dict #[] }) h.objs.size (.dK []) :=
  ⟨Nat.zero_le _, beq_eq_false_iff_ne.mpr (Ne.symm (Nat.ne_of_lt hb)), [], .nil, Heap.DictOf.new h⟩
theorem dt_empty {P : Program} {w : World} {H : Hp} (h : Heap) (hb : sysModules < h.objs.size) : ObjOk P w H (h.push { cls := .type "dict", data := .dict #[] }) h.objs.size (.dT []) :=
  ⟨Nat.zero_le _, beq_eq_false_iff_ne.mpr (Ne.symm (Nat.ne_of_lt hb)), [], .nil, _, #[], 0, Heap.get?_push_size _ rfl, ⟨rfl, rfl, rfl⟩, rfl, rfl, List.nodup_nil⟩
/-- {}, to be a dict of the kind that is wanted -/
def tDNewK : TE := fun _ H Q => ∀ p, H p = none → Q (.ref p) (upd H p (.dK []))
def tDNewT : TE := fun _ H Q => ∀ p, H p = none → Q (.ref p) (upd H p (.dT []))
section
variable {X : Cx} {pos : Pos}
theorem pe_dnewK : PE X (.Dict [] [] pos) tDNewK := fun pins s σ H Q I h =>
  wpAny_Dict_empty ⟨.ref s.heap.objs.size, _, I.laid (a := s.heap.objs.size) (o := .dK []) (t' := s.toks) (fun _ _ q => Heap.get?_push_of_some _ q) (Nat.le_refl _) (dk_empty s.heap I.big), rfl, h _ (I.hok.fresh (Nat.le_refl _))⟩
theorem pe_dnewT : PE X (.Dict [] [] pos) tDNewT := fun pins s σ H Q I h =>
  wpAny_Dict_empty ⟨.ref s.heap.objs.size, _, I.laid (a := s.heap.objs.size) (o := .dT []) (t' := s.toks) (fun _ _ q => Heap.get?_push_of_some _ q) (Nat.le_refl _) (dt_empty s.heap I.big), rfl, h _ (I.hok.fresh (Nat.le_refl _))⟩
end

/-- the pairs of a display, from the left -/
def tPairs : List (TE × TE) → St → Hp → (List (V × V) → Hp → Prop) → Prop
  | [], _, H, Q => Q [] H
  | (tk, tv) :: r, σ, H, Q => tk σ H fun x H1 => tv σ H1 fun y H2 => tPairs r σ H2 fun ps H3 => Q ((x, y) :: ps) H3
abbrev VV : List (V × V) → List (Value × Value) → Prop := Paired fun p q => RelV p.1 q.1 ∧ RelV p.2 q.2
def PPs (X : Cx) (pos : Pos) (keys : List (Option Expr)) (values : List Expr) (trs : List (TE × TE)) : Prop :=
  ∀ (pins : List (Addr × Obj)) (s : Shared) (σ : St) (H : Hp) (Q : List (V × V) → Hp → Prop), Inv X pins σ H s → tPairs trs σ H Q →
    wpAny (model X.prog X.w) X.A (evalPairs (pairTrees keys values X.env pos)) (fun vs s' => ∃ ps H', Inv X pins σ H' s' ∧ VV ps vs ∧ Q ps H') X.xe s
theorem pps_nil {X : Cx} {pos : Pos} : PPs X pos [] [] [] := fun pins s σ H Q I h => pairTrees_nil_walk ⟨[], H, I, .nil, h⟩
theorem pps_cons {X : Cx} {pos : Pos} {k v : Expr} {ks : List (Option Expr)} {vs : List Expr} {tk tv : TE} {trs : List (TE × TE)} (hk : PE X k tk) (hv : PE X v tv) (hr : PPs X pos ks vs trs) :
    PPs X pos (some k :: ks) (v :: vs) ((tk, tv) :: trs) := fun pins s σ H Q I h =>
  pairTrees_cons_walk (thn (hk pins s σ H _ I h) fun u s1 ⟨x, H1, I1, rx, q1⟩ => thn (hv pins s1 σ H1 _ I1 q1) fun w2 s2 ⟨y, H2, I2, ry, q2⟩ =>
    thn (hr pins s2 σ H2 _ I2 q2) fun ws s3 ⟨ps, H3, I3, rel, q3⟩ => ⟨(x, y) :: ps, H3, I3, .cons ⟨rx, ry⟩ rel, q3⟩)

def mergeK (kvs more : List (Key × V)) : List (Key × V) := more.foldl (fun acc kv => putK acc kv.1 kv.2) kvs
theorem KV.merge : ∀ {more : List (Key × V)} {rs : List (Key × Value)} {kvs : List (Key × V)} {vs : List (Key × Value)}, KV more rs → KV kvs vs → KV (mergeK kvs more) (merged vs rs) := by
  intro more rs kvs vs r
  unfold KV at r
  induction r generalizing kvs vs with
  | nil => intro q; exact q
  | @cons p q ps qs h t ih =>
    intro r0
    have e : KV (putK kvs p.1 p.2) (stored vs q.1 q.2) := by
      have := r0.put p.1 h.2
      rw [← h.1]; exact this
    exact ih e
theorem length_mergeK : ∀ (more kvs : List (Key × V)), (mergeK kvs more).length ≤ kvs.length + more.length
  | [], kvs => by show kvs.length ≤ kvs.length + 0; omega
  | p :: r, kvs => by
    have h1 := length_mergeK r (putK kvs p.1 p.2)
    have h2 := length_putK kvs p.1 p.2
    show (mergeK (putK kvs p.1 p.2) r).length ≤ _
    rw [List.length_cons]; omega
theorem carries_of {P : Program} {w : World} : ∀ {kvs : List (Key × V)} {ws : List (Value × Value)}, VV (kvs.map fun kv => (kV kv.1, kv.2)) ws → ∃ rs, Carries (mixKind P w) ws rs ∧ KV kvs rs
  | [], _, r => by rw [List.map_nil] at r; cases r; exact ⟨[], True.intro, .nil⟩
  | p :: kvs, _, r => by
    rw [List.map_cons] at r
    cases r with
    | @cons a b as bs h t =>
      obtain ⟨rs, c, q⟩ := carries_of (P := P) (w := w) t
      obtain ⟨b1, b2⟩ := b
      exact ⟨(p.1, b2) :: rs, ⟨kV_is h.1, rfl, c⟩, .cons ⟨rfl, h.2⟩ q⟩
/-- {k: v, ..} with keys ints and texts; the new dict stands empty while the pairs are made -/
def tDisp (trs : List (TE × TE)) : TE := fun σ H Q => ∀ p, H p = none → tPairs trs σ (upd H p (.dK [])) fun ps H2 => H2 p = some (.dK []) ∧ ∃ kvs : List (Key × V), ps = kvs.map (fun kv => (kV kv.1, kv.2)) ∧ kvs.length ≤ 15 ∧ Q (.ref p) (upd H2 p (.dK (mergeK [] kvs)))
theorem pe_disp {X : Cx} {pos : Pos} {keys : List (Option Expr)} {values : List Expr} {trs : List (TE × TE)} (h : PPs X pos keys values trs) (hall : keys.all (·.isSome) = true) (hl : keys.length = values.length) (h0 : keys ≠ [])
    (h15 : keys.length ≤ 15) : PE X (.Dict keys values pos) (tDisp trs) := by
  intro pins s σ H Q I q
  have hn := I.hok.fresh (Nat.le_refl s.heap.objs.size)
  have I1 := I.laid (a := s.heap.objs.size) (o := .dK []) (h' := s.heap.push { cls := .type "dict", data := .dict #[] }) (t' := s.toks) (fun _ _ q => Heap.get?_push_of_some _ q) (Nat.le_refl _) (dk_empty s.heap I.big)
  refine wpAny_Dict_walk (knd := mixKind X.prog X.w) hall hl h0 h15 (thn (h pins _ σ _ _ I1 (q _ hn)) fun ws s2 ⟨ps, H2, I2, rel, e, kvs, ep, lk, q2⟩ => ?_)
  subst ep
  obtain ⟨rs, c, rk⟩ := carries_of (P := X.prog) (w := X.w) rel
  obtain ⟨z, hd, vs0, r0, dd⟩ := dk_of I2.hok e
  cases r0
  refine ⟨rs, c, dd, fun h' dd' hs => ⟨.ref s.heap.objs.size, _, ?_, rfl, q2⟩⟩
  have hz : (mergeK [] kvs).length ≤ sizeLine := by
    have h1 := length_mergeK kvs []
    rw [List.length_nil] at h1
    rw [sizeLine_eq]; omega
  have he : ∃ q, h'.get? s.heap.objs.size = some q := let ⟨q, _, _, hq, _⟩ := dd'; ⟨q, hq⟩
  exact d_write I2 (by rw [e]; exact True.intro) hs he (dk_new hz hd (rk.merge .nil) dd')

/-! ### methods -/
/-- a method call o.m(e) of a built-in, with one argument: what must be seen of the text -/
structure M1 (X : Cx) (o : Expr) (m : Str) (apos : Pos) (e : Expr) (cpos : Pos) : Prop where
  base : attributeBase o m X.env (eval o X.env) = eval o X.env
  few : ((backTo cpos (starEach [e] X.env)).all (fun x => !x.1) && (backToKw cpos (keywordEach [] X.env)).all (fun x => x.1.isSome)
    && decide (([e] : List Expr).length + ([] : List Keyword).length + (if ([] : List Keyword).isEmpty then 0 else 1) < 30)) = true
  line : (apos.endLine == cpos.line) = true
  trees : backTo cpos (starEach [e] X.env) = [(false, eval e X.env)]
structure M2 (X : Cx) (o : Expr) (m : Str) (apos : Pos) (e f : Expr) (cpos : Pos) : Prop where
  base : attributeBase o m X.env (eval o X.env) = eval o X.env
  few : ((backTo cpos (starEach [e, f] X.env)).all (fun x => !x.1) && (backToKw cpos (keywordEach [] X.env)).all (fun x => x.1.isSome)
    && decide (([e, f] : List Expr).length + ([] : List Keyword).length + (if ([] : List Keyword).isEmpty then 0 else 1) < 30)) = true
  line : (apos.endLine == cpos.line) = true
  trees : backTo cpos (starEach [e, f] X.env) = [(false, eval e X.env), (false, eval f X.env)]

/-- a is a dict, whatever its keys -/
def IsD (H : Hp) (a : Addr) : Prop := (∃ kvs, Rd H a (.dK kvs)) ∨ ∃ kvs, Rd H a (.dT kvs)
theorem isD_at {X : Cx} {pins : List (Addr × Obj)} {σ : St} {H : Hp} {s : Shared} {a : Addr} (I : Inv X pins σ H s) (d : IsD H a) :
    s.TypeIs (.ref a) "dict" ∧ (∀ b, Value.ref a = .ref b → ∃ ob, s.heap.get? b = some ob ∧ ob.dict = none) ∧ (a == sysModules) = false := by
  rcases d with ⟨kvs, e⟩ | ⟨kvs, e⟩
  · obtain ⟨_, hd, vs, _, dd⟩ := dk_rd I.hok e
    refine ⟨dd.typeIs, fun b q => ?_, hd⟩
    cases q
    obtain ⟨ob, _, _, h1, h2, _⟩ := dd
    exact ⟨ob, h1, h2.2.1⟩
  · obtain ⟨_, hd, xs, _, dd⟩ := dt_rd I.hok e
    refine ⟨dd.typeIs, fun b q => ?_, hd⟩
    cases q
    obtain ⟨ob, _, _, h1, h2, _⟩ := dd
    exact ⟨ob, h1, h2.2.1⟩

section
variable {X : Cx} {pins : List (Addr × Obj)} {σ : St} {H : Hp} {s : Shared} {a : Addr} {y d : V} {u r : Value} {o : Option V} {A : Around} {E : Value → Shared → Prop}
/-- d.get(y) -/
theorem d_get1 {Q : Value → Shared → Prop} (hu : A.units + 1 < cLine) (I : Inv X pins σ H s) (g : DGet H a y o) (ry : RelV y u) (h : ∀ w' s', Inv X pins σ H s' → RelV (o.getD .non) w' → Q w' s') :
    wpAny (model X.prog X.w) A (call (.builtin "dict.get") [.ref a, u]) Q E s := by
  rcases g with ⟨kvs, k, e, ey, l⟩ | ⟨kvs, k, b, e, ey, eb, l⟩
  · subst ey
    obtain ⟨z, hd, vs, rel, dd⟩ := dk_rd I.hok e
    refine call_meetsIn PySem.F.slot_dict_get dd.typeIs PySem.F.entry_dict_get (PySem.F.args_dict_get_2 _ _) (meets_dict_get (mixKind X.prog X.w) a (kV_is ry) hd) ⟨_, dd.mapOf, h _ _ (I.tok _) ?_⟩
    rw [l]
    exact (rel.val k).getD rfl
  · subst ey
    cases (show u = Value.ref b from ry)
    obtain ⟨z, hd, xs, rel, dd⟩ := dt_rd I.hok e
    refine call_meetsIn PySem.F.slot_dict_get dd.typeIs PySem.F.entry_dict_get (PySem.F.args_dict_get_2 _ _) (meetsH_dict_get (tupleKind (mixKind X.prog X.w)) a b hd) ⟨tupleKind_room_in1 hu, k, xs, key_of I.hok eb, dd, h _ _ (I.tok _) ?_⟩
    rw [l]
    exact (rel.val k).getD rfl
/-- d.get(y, x) -/
theorem d_get2 {Q : Value → Shared → Prop} (hu : A.units + 1 < cLine) (I : Inv X pins σ H s) (g : DGet H a y o) (ry : RelV y u) (rd : RelV d r) (h : ∀ w' s', Inv X pins σ H s' → RelV (o.getD d) w' → Q w' s') :
    wpAny (model X.prog X.w) A (call (.builtin "dict.get") [.ref a, u, r]) Q E s := by
  rcases g with ⟨kvs, k, e, ey, l⟩ | ⟨kvs, k, b, e, ey, eb, l⟩
  · subst ey
    obtain ⟨z, hd, vs, rel, dd⟩ := dk_rd I.hok e
    refine call_meetsIn PySem.F.slot_dict_get dd.typeIs PySem.F.entry_dict_get (PySem.F.args_dict_get_3 _ _ _) (meets_dict_get_default (mixKind X.prog X.w) a (kV_is ry) hd r) ⟨_, dd.mapOf, h _ _ (I.tok _) ?_⟩
    rw [l]
    exact (rel.val k).getD rd
  · subst ey
    cases (show u = Value.ref b from ry)
    obtain ⟨z, hd, xs, rel, dd⟩ := dt_rd I.hok e
    refine call_meetsIn PySem.F.slot_dict_get dd.typeIs PySem.F.entry_dict_get (PySem.F.args_dict_get_3 _ _ _) (meetsH_dict_get_default (tupleKind (mixKind X.prog X.w)) a b hd r) ⟨tupleKind_room_in1 hu, k, xs, key_of I.hok eb, dd, h _ _ (I.tok _) ?_⟩
    rw [l]
    exact (rel.val k).getD rd
end

def tDGet1 (td ty : TE) : TE := fun σ H Q => td σ H fun x H1 => ∃ a, x = .ref a ∧ IsD H1 a ∧ ty σ H1 fun y H2 => ∃ o, DGet H2 a y o ∧ Q (o.getD .non) H2
def tDGet2 (td ty tx : TE) : TE := fun σ H Q => td σ H fun x H1 => ∃ a, x = .ref a ∧ IsD H1 a ∧ ty σ H1 fun y H2 => tx σ H2 fun z H3 => ∃ o, DGet H3 a y o ∧ Q (o.getD z) H3
/-- d.pop(k): there; d.pop(k, x): there or not -/
def tDPop1 (td ty : TE) : TE := fun σ H Q => td σ H fun x H1 => ∃ a, x = .ref a ∧ IsD H1 a ∧ ty σ H1 fun y H2 => ∃ kvs k v, H2 a = some (.dK kvs) ∧ y = kV k ∧ valV kvs k = some v ∧ Q v (upd H2 a (.dK (dropK kvs k)))
def tDPop2 (td ty tx : TE) : TE := fun σ H Q => td σ H fun x H1 => ∃ a, x = .ref a ∧ IsD H1 a ∧ ty σ H1 fun y H2 => tx σ H2 fun z H3 => ∃ kvs k, H3 a = some (.dK kvs) ∧ y = kV k ∧
  (∀ v, valV kvs k = some v → Q v (upd H3 a (.dK (dropK kvs k)))) ∧ (valV kvs k = none → Q z H3)
section
variable {X : Cx} {o e f : Expr} {apos cpos : Pos} {td ty tx : TE}
theorem pe_dget1 (hu : X.A.units + 1 < cLine) (ho : PE X o td) (he : PE X e ty) (m : M1 X o "get" apos e cpos) : PE X (.Call (.Attribute o "get" apos) [e] [] cpos) (tDGet1 td ty) := by
  intro pins s σ H Q I h
  refine wpAny_Call_method m.base m.few m.line PySem.F.plainAttrs_dict PySem.F.slot_dict_get PySem.F.type_dict_get (thn (ho pins s σ H _ I h) fun u s1 ⟨x, H1, I1, rx, a, ex, d, q1⟩ => ?_)
  subst ex
  obtain rfl : u = Value.ref a := rx
  obtain ⟨t1, t2, _⟩ := isD_at I1 d
  refine ⟨t1, t2, ?_⟩
  rw [m.trees]
  refine Calls.callWith_builtin rfl (Calls.evalArgs_plain (Calls.spliced_cons (thn (he pins s1 σ H1 _ I1 q1) fun iv s2 ⟨y, H2, I2, ry, ov, g, q2⟩ => Calls.spliced_nil ?_)))
  exact d_get1 hu I2 g ry fun w' s3 I3 rw' => ⟨_, H2, I3, rw', q2⟩
theorem pe_dget2 (hu : X.A.units + 1 < cLine) (ho : PE X o td) (he : PE X e ty) (hf : PE X f tx) (m : M2 X o "get" apos e f cpos) : PE X (.Call (.Attribute o "get" apos) [e, f] [] cpos) (tDGet2 td ty tx) := by
  intro pins s σ H Q I h
  refine wpAny_Call_method m.base m.few m.line PySem.F.plainAttrs_dict PySem.F.slot_dict_get PySem.F.type_dict_get (thn (ho pins s σ H _ I h) fun u s1 ⟨x, H1, I1, rx, a, ex, d, q1⟩ => ?_)
  subst ex
  obtain rfl : u = Value.ref a := rx
  obtain ⟨t1, t2, _⟩ := isD_at I1 d
  refine ⟨t1, t2, ?_⟩
  rw [m.trees]
  refine Calls.callWith_builtin rfl (Calls.evalArgs_plain (Calls.spliced_cons (thn (he pins s1 σ H1 _ I1 q1) fun iv s2 ⟨y, H2, I2, ry, q2⟩ =>
    Calls.spliced_cons (thn (hf pins s2 σ H2 _ I2 q2) fun fv s3 ⟨z, H3, I3, rz, ov, g, q3⟩ => Calls.spliced_nil ?_))))
  exact d_get2 hu I3 g ry rz fun w' s4 I4 rw' => ⟨_, H3, I4, rw', q3⟩
theorem pe_dpop1 (ho : PE X o td) (he : PE X e ty) (m : M1 X o "pop" apos e cpos) : PE X (.Call (.Attribute o "pop" apos) [e] [] cpos) (tDPop1 td ty) := by
  intro pins s σ H Q I h
  refine wpAny_Call_method m.base m.few m.line PySem.F.plainAttrs_dict PySem.F.slot_dict_pop PySem.F.type_dict_pop (thn (ho pins s σ H _ I h) fun u s1 ⟨x, H1, I1, rx, a, ex, d, q1⟩ => ?_)
  subst ex
  obtain rfl : u = Value.ref a := rx
  obtain ⟨t1, t2, _⟩ := isD_at I1 d
  refine ⟨t1, t2, ?_⟩
  rw [m.trees]
  refine Calls.callWith_builtin rfl (Calls.evalArgs_plain (Calls.spliced_cons (thn (he pins s1 σ H1 _ I1 q1) fun iv s2 ⟨y, H2, I2, ry, kvs, k, v, ea, ey, l, q2⟩ => Calls.spliced_nil ?_)))
  subst ey
  exact d_pop I2 ea ry l (.inl rfl) fun w' s3 I3 rw' => ⟨v, _, I3, rw', q2⟩
theorem pe_dpop2 (ho : PE X o td) (he : PE X e ty) (hf : PE X f tx) (m : M2 X o "pop" apos e f cpos) : PE X (.Call (.Attribute o "pop" apos) [e, f] [] cpos) (tDPop2 td ty tx) := by
  intro pins s σ H Q I h
  refine wpAny_Call_method m.base m.few m.line PySem.F.plainAttrs_dict PySem.F.slot_dict_pop PySem.F.type_dict_pop (thn (ho pins s σ H _ I h) fun u s1 ⟨x, H1, I1, rx, a, ex, d, q1⟩ => ?_)
  subst ex
  obtain rfl : u = Value.ref a := rx
  obtain ⟨t1, t2, _⟩ := isD_at I1 d
  refine ⟨t1, t2, ?_⟩
  rw [m.trees]
  refine Calls.callWith_builtin rfl (Calls.evalArgs_plain (Calls.spliced_cons (thn (he pins s1 σ H1 _ I1 q1) fun iv s2 ⟨y, H2, I2, ry, q2⟩ =>
    Calls.spliced_cons (thn (hf pins s2 σ H2 _ I2 q2) fun fv s3 ⟨z, H3, I3, rz, kvs, k, ea, ey, q3, q4⟩ => Calls.spliced_nil ?_))))
  subst ey
  cases l : valV kvs k with
  | some v => exact d_pop I3 ea ry l (.inr ⟨fv, rfl⟩) fun w' s4 I4 rw' => ⟨v, _, I4, rw', q3 v l⟩
  | none => exact d_popD I3 ea ry l fun s4 I4 => ⟨z, H3, I4, rz, q4 l⟩
end

/-! ### dict(d): a copy -/
section
variable {X : Cx} {pins : List (Addr × Obj)} {σ : St} {H : Hp} {s : Shared} {a : Addr} {kvs : List (Key × V)} {A : Around} {E : Value → Shared → Prop}
theorem d_copyOf {Q : Value → Shared → Prop} (I : Inv X pins σ H s) (e : Rd H a (.dK kvs)) (h : ∀ p s', H p = none → Inv X pins σ (upd H p (.dK kvs)) s' → Q (.ref p) s') : wpAny (model X.prog X.w) A (call (.type "dict") [.ref a]) Q E s := by
  obtain ⟨z, hd, vs, rel, dd⟩ := dk_rd I.hok e
  refine kt_call_dict hd dd (by rw [← rel.length]; exact z) fun h' dd' hs => ?_
  refine h _ _ (I.hok.fresh (Nat.le_refl _)) (I.laid (a := s.heap.objs.size) (o := .dK kvs) (t' := s.toks) (fun b q hq => ?_) (Nat.le_refl _) (dk_new z (beq_eq_false_iff_ne.mpr (Ne.symm (Nat.ne_of_lt I.big))) rel dd'))
  exact (hs.2 b (Nat.ne_of_lt (Heap.lt_size hq))).trans (Heap.get?_push_of_some _ hq)
end

section
variable {X : Cx} {pins : List (Addr × Obj)} {σ : St} {H : Hp} {s : Shared} {a : Addr} {y : V} {u : Value} {A : Around} {E : Value → Shared → Prop}
/-- d[y], not there: a KeyError -/
theorem d_missing {Q : Value → Shared → Prop} (hu : A.units + 1 < cLine) (hh : A.handled = none) (I : Inv X pins σ H s) (g : DGet H a y none) (ry : RelV y u)
    (h : ∀ h' e t', Heap.NewExc s.heap h' e "KeyError" → E (.ref e) { s with heap := h', toks := t' }) : wpAny (model X.prog X.w) A (getItem (.ref a) u) Q E s := by
  rcases g with ⟨kvs, k, e, ey, l⟩ | ⟨kvs, k, b, e, ey, eb, l⟩
  · subst ey
    obtain ⟨z, hd, vs, rel, dd⟩ := dk_rd I.hok e
    have hn : valueAt vs k = none := RelO.none_of (by rw [l]; exact rel.val k)
    exact wpAny_getItem_missing_of (kV_is ry) hd hh dd.mapOf hn fun h' ex ne => h h' ex _ ne
  · subst ey
    cases (show u = Value.ref b from ry)
    obtain ⟨z, hd, xs, rel, dd⟩ := dt_rd I.hok e
    have hn : (atKey xs k).map (·.2) = none := RelO.none_of (by rw [l]; exact rel.val k)
    exact wpAny_getItem_missing_heap (tupleKind_room_in1 hu) (key_of I.hok eb) hd hh dd (Option.map_eq_none_iff.mp hn) fun h' ex ne => h h' ex _ ne
end
end L2

namespace HT
open PySem PyProof.Rows

/-- t < u of tuples of ints -/
def lexLt : List Int → List Int → Bool
  | [], [] => false
  | [], _ :: _ => true
  | _ :: _, [] => false
  | x :: xs, y :: ys => if x = y then lexLt xs ys else decide (x < y)
theorem lexLt_cons (x y : Int) (xs ys : List Int) : lexLt (x :: xs) (y :: ys) = if x = y then lexLt xs ys else decide (x < y) := rfl
theorem lexLt_nil_nil : lexLt [] [] = false := rfl
theorem lexLt_nil_cons (y : Int) (ys : List Int) : lexLt [] (y :: ys) = true := rfl
theorem lexLt_cons_nil (x : Int) (xs : List Int) : lexLt (x :: xs) [] = false := rfl

theorem eqAt_int (A : Around) (s : Shared) (a : Int) (t : Tok) (c : Int) (u : Tok) : ∃ e, SeqAt.EqAt A s (.int a t) (.int c u) e ∧ (e = true ↔ a = c) :=
  ⟨(a == c), SeqAt.EqAt.int_int a t c u, by simp⟩
theorem rcLt_int (A : Around) (s : Shared) (a : Int) (t : Tok) (c : Int) (u : Tok) (prog : Program) (w : World) (E : Value → Shared → Prop) (Q : Value → Shared → Prop) (h : Q (.bool (decide (a < c))) s) :
    wpAny (model prog w) A (richCompare .Lt (.int a t) (.int c u)) Q E s :=
  (PyProof.Rows.lt_int h : wpAny (model prog w) A (compareOp .Lt (.int a t) (.int c u)) Q E s)

section
open PySem.SeqAt
open PySem.AutoSeq1 (wpAny_loadPart')
open PySem.MeetsSeq PySem.MeetsSeq2 PySem.MeetsSeq3

theorem tuple_lt_ints (l b : Addr) (items items2 : Array Value) (n n2 : Nat) (dd dd2 : Option Addr) (sl sl2 : Array (Option Value)) (ns ms : List Int) (hi : IntsAre items.toList ns) (hj : IntsAre items2.toList ms) :
    Meets (Builtin.«tuple.__lt__» ⟨[.ref l, .ref b], []⟩)
      (fun _ R s => s.heap.get? l = some { cls := .type "tuple", dict := dd, data := .seq items n, slots := sl } ∧ s.heap.get? b = some { cls := .type "tuple", dict := dd2, data := .seq items2 n2, slots := sl2 } ∧
        R (.ok (.ret (.bool (lexLt ns ms)))) s) :=
  .of_wp fun prog w A R s h => by
    obtain ⟨hp, g, d, tk, os⟩ := s; obtain ⟨hl, hb, h⟩ := h
    have f2 := AutoSeq1.sub_tuple_tuple
    have z1 : items.size = ns.length := by rw [← hi.length]; simp
    have z2 : items2.size = ms.length := by rw [← hj.length]; simp
    wp_walk using wpAny_loadPart' hl, wpAny_loadPart' hb, wpAny_forIn_list _ (fun rest b s' => b.1 = none ∧ s' = ⟨hp, g, d, tk, os⟩ ∧ ∃ (vs ws : List Value) (ns' ms' : List Int), rest = vs.zip ws ∧
      IntsAre vs ns' ∧ IntsAre ws ms' ∧ ns'.length + items2.size = ms'.length + items.size ∧ R (.ok (.ret (.bool (lexLt ns' ms')))) ⟨hp, g, d, tk, os⟩) _
    case turn =>
      rintro ⟨y, x⟩ rest b s' ⟨hb', rfl, vs, ws, ns', ms', hz, hvi, hwi, hlen, hR⟩
      cases hvi with
      | nil => rw [List.zip_nil_left] at hz; cases hz
      | cons a t hvi' =>
        cases hwi with
        | nil => rw [List.zip_nil_right] at hz; cases hz
        | cons c u hwi' =>
          rw [List.zip_cons_cons] at hz
          injection hz with hyx hrest
          injection hyx with hy hx
          subst hy hx
          rw [lexLt_cons] at hR
          simp only [List.length_cons] at hlen
          obtain ⟨e, he, hiff⟩ := eqAt_int A.in1 ⟨hp, g, d, tk, os⟩ a t c u
          refine wpAny_bind (he prog w _ _ ?_)
          cases e with
          | true =>
            rw [if_pos (hiff.mp rfl)] at hR
            wp_walk
            exact ⟨rfl, rfl, _, _, _, _, hrest, hvi', hwi', by omega, hR⟩
          | false =>
            rw [if_neg (fun q => absurd (hiff.mpr q) Bool.false_ne_true)] at hR
            have hri := rcLt_int A.in1 ⟨hp, g, d, tk, os⟩ a t c u prog w
            wp_walk using hri
            exact ⟨_, rfl, by simpa using hR⟩
    case fin =>
      rintro ⟨b1, b2⟩ s' ⟨hb', rfl, vs, ws, ns', ms', hz, hvi, hwi, hlen, hR⟩
      simp only at hb'
      subst hb'
      have hv : lexLt ns' ms' = decide (items.size < items2.size) := by
        cases hvi with
        | nil =>
          cases hwi with
          | nil =>
            simp only [List.length_nil] at hlen
            rw [lexLt_nil_nil]
            exact (decide_eq_false (by omega)).symm
          | cons c u hw =>
            simp only [List.length_nil, List.length_cons] at hlen
            rw [lexLt_nil_cons]
            exact (decide_eq_true (by omega)).symm
        | cons a t hv =>
          cases hwi with
          | nil =>
            simp only [List.length_nil, List.length_cons] at hlen
            rw [lexLt_cons_nil]
            exact (decide_eq_false (by omega)).symm
          | cons c u hw =>
            rw [List.zip_cons_cons] at hz
            cases hz
      rw [hv] at hR
      wp_walk
      exact ⟨_, rfl, by simpa [Builtin.Tuple.tupleCompareSizes] using hR⟩
    case h =>
      exact ⟨rfl, rfl, items.toList, items2.toList, ns, ms, rfl, hi, hj, by omega, h⟩
end

section
variable {prog : Program} {w : World} {A : Around} {E : Value → Shared → Prop} {s : Shared}

theorem lt_tupInts {l b : Addr} {items items2 : Array Value} {ns ms : List Int} {Q : Value → Shared → Prop} (hl : IsTup s.heap l items) (hb : IsTup s.heap b items2) (hi : IntsAre items.toList ns) (hj : IntsAre items2.toList ms)
    (hu : A.units < cLine) (h : Q (.bool (lexLt ns ms)) s) : wpAny (model prog w) A (compareOp .Lt (.ref l) (.ref b)) Q E s := by
  obtain ⟨⟨cls, dd, data, sl⟩, ho, hc, n, hd⟩ := id hl
  obtain ⟨⟨cls2, dd2, data2, sl2⟩, ho2, hc2, n2, hd2⟩ := id hb
  simp only at hc hd hc2 hd2
  subst hc hd hc2 hd2
  exact richCompare_meets_room (op := .Lt) ⟨_, ho, rfl⟩ ⟨_, ho2, rfl⟩ PySem.F.slot_tuple_lt PySem.F.entry_tuple_lt (PySem.F.args_tuple_lt_2 _ _) (tuple_lt_ints l b items items2 n n2 dd dd2 sl sl2 ns ms hi hj)
    ⟨ho, ho2, show Value.bool (lexLt ns ms) ≠ Value.notImplemented ∧ Q (.bool (lexLt ns ms)) s from ⟨(fun x => nomatch x), h⟩⟩ hu

/-- t + u, t not empty -/
theorem cat_tup {t b : Addr} {vs ws : List Value} {Q : Value → Shared → Prop} (ht : IsTup s.heap t vs.toArray) (hb : IsTup s.heap b ws.toArray) (hv : vs ≠ [])
    (h1 : ws = [] → Q (.ref t) s) (h2 : ws ≠ [] → Q (.ref s.heap.objs.size) { s with heap := s.heap.push { cls := .type "tuple", data := .seq (vs ++ ws).toArray } })
    (hsz : vs.length + ws.length ≤ sizeLine) : wpAny (model prog w) A (binaryOp .Add (.ref t) (.ref b)) Q E s := by
  obtain ⟨⟨cls, dd, data, sl⟩, ho, hc, n, hd⟩ := id ht
  obtain ⟨⟨cls2, dd2, data2, sl2⟩, ho2, hc2, n2, hd2⟩ := id hb
  simp only at hc hd hc2 hd2
  subst hc hd hc2 hd2
  have e : vs.toArray ++ ws.toArray = (vs ++ ws).toArray := by simp
  by_cases hw : ws = []
  · exact concat_meets ⟨_, ho, rfl⟩ ⟨_, ho2, rfl⟩ noFill_tuple_add seq_tuple_add PySem.F.slot_tuple_add PySem.F.entry_tuple_add (PySem.F.args_tuple_add_2 _ _)
      (tuple_addW1 t b vs.toArray ws.toArray n n2 dd dd2 sl sl2 (by simpa using hv) (by simp [hw])) ⟨ho, ho2, h1 hw⟩
  · refine concat_meets ⟨_, ho, rfl⟩ ⟨_, ho2, rfl⟩ noFill_tuple_add seq_tuple_add PySem.F.slot_tuple_add PySem.F.entry_tuple_add (PySem.F.args_tuple_add_2 _ _)
      (tuple_addW2 t b vs.toArray ws.toArray n n2 dd dd2 sl sl2 (by simpa using hv) (by simpa using hw) (by rw [List.size_toArray, List.size_toArray]; exact hsz)) ⟨ho, ho2, ?_⟩
    rw [e]
    exact h2 hw

/-! ### t[a:b], not the whole -/
/-- a slice's bound as a place among n (d where it is left out) -/
def sIx (n d : Nat) : Option Int → Nat
  | none => d
  | some v => if v < 0 then (v + (n : Int)).toNat else min v.toNat n
theorem sIx_none (n d : Nat) : sIx n d none = d := rfl
theorem sIx_nat (n d k : Nat) : sIx n d (some (k : Int)) = min k n := by
  show (if (k : Int) < 0 then ((k : Int) + (n : Int)).toNat else min (k : Int).toNat n) = min k n
  rw [if_neg (by omega), Int.toNat_natCast]
theorem sIx_le (n d : Nat) (hd : d ≤ n) (o : Option Int) : sIx n d o ≤ n := by
  cases o with
  | none => exact hd
  | some v =>
    show (if v < 0 then (v + (n : Int)).toNat else min v.toNat n) ≤ n
    by_cases hv : v < 0
    · rw [if_pos hv]; omega
    · rw [if_neg hv]; exact Nat.min_le_right _ _
theorem clip_eq (v : Int) (n d : Nat) : (if v < 0 then max (v + (n : Int)) 0 else min v (n : Int)) = ((sIx n d (some v) : Nat) : Int) := by
  show (if v < 0 then max (v + (n : Int)) 0 else min v (n : Int)) = (((if v < 0 then (v + (n : Int)).toNat else min v.toNat n) : Nat) : Int)
  by_cases hv : v < 0
  · simp only [if_pos hv]; omega
  · simp only [if_neg hv]; omega
theorem adjust_gen (lo hi : Option Int) (n : Nat) : Builtin.Slice.sliceAdjust lo hi 1 (n : Int) = (((sIx n 0 lo : Nat) : Int), ((sIx n n hi : Nat) : Int)) := by
  have h1 : ¬ ((1 : Int) < 0) := by omega
  unfold Builtin.Slice.sliceAdjust
  simp only [h1, if_false]
  refine Prod.ext ?_ ?_
  · cases lo with
    | none => rfl
    | some v => exact clip_eq v n 0
  · cases hi with
    | none => rfl
    | some v => exact clip_eq v n n
theorem places_gen (i j : Nat) : Builtin.Slice.slicePlaces (i : Int) (j : Int) 1 = j - i := by
  unfold Builtin.Slice.slicePlaces
  have h1 : (1 : Int) > 0 := by omega
  simp only [h1, if_true, Int.ediv_one]
  split <;> omega
theorem slicePart_ {v : Value} {o : Option Int} {Q : Option Int → Shared → Prop} (p : IsPart v o) (h : Q o s) : wpAny (model prog w) A (Builtin.Slice.slicePartIndex v) Q E s := by
  cases p with
  | none => exact slicePart_none h
  | int i t => exact slicePart_int h
theorem sliceApplied_gen {sl : Addr} {vl vu : Value} {lo hi : Option Int} {n : Nat} {Q : Int × Int × Nat → Shared → Prop} (hs : s.heap.IsSliceOf sl vl vu .none) (pl : IsPart vl lo) (pu : IsPart vu hi)
    (h : Q (((sIx n 0 lo : Nat) : Int), 1, sIx n n hi - sIx n 0 lo) s) : wpAny (model prog w) A (Builtin.Slice.sliceApplied (.ref sl) (pure (n : Int))) Q E s := by
  obtain ⟨os, hos, hcs, hds⟩ := id hs
  unfold Builtin.Slice.sliceApplied Builtin.Slice.sliceFields
  refine wpAny_bind (wpAny_bind (wpAny_field hos hds (x := vl) rfl (wpAny_bind (wpAny_field hos hds (x := vu) rfl (wpAny_bind (wpAny_field hos hds (x := .none) rfl (wpAny_pure ?_)))))))
  refine wpAny_bind (slicePart_none ?_)
  show wpAny _ _ (if ((1 : Int) == 0) = true then _ else _) _ _ s
  rw [if_neg (by decide)]
  refine wpAny_bind (slicePart_ pl (wpAny_bind (slicePart_ pu (wpAny_bind (wpAny_pure ?_)))))
  show wpAny _ _ (match Builtin.Slice.sliceAdjust lo hi 1 (n : Int) with | (lo, hi) => pure (lo, (1 : Int), Builtin.Slice.slicePlaces lo hi 1)) _ _ s
  rw [adjust_gen lo hi n]
  show wpAny _ _ (pure (((sIx n 0 lo : Nat) : Int), (1 : Int), Builtin.Slice.slicePlaces ((sIx n 0 lo : Nat) : Int) ((sIx n n hi : Nat) : Int) 1)) _ _ s
  rw [places_gen]
  exact wpAny_pure h
theorem pick_gen (xs : Array Value) (i k : Nat) : ((List.range k).filterMap fun (m : Nat) => xs[((i : Int) + (m : Int) * 1).toNat]?).toArray = ((xs.toList.drop i).take k).toArray := by
  have e : (fun (m : Nat) => xs[((i : Int) + (m : Int) * 1).toNat]?) = fun m => xs[i + m]? := by
    funext m
    have : ((i : Int) + (m : Int) * 1).toNat = i + m := by omega
    rw [this]
  rw [e]
  have := pick_run xs i k
  rw [List.filterMap_map] at this
  have e2 : ((fun x => xs[x]?) ∘ fun x => i + x) = fun m => xs[i + m]? := rfl
  rw [e2] at this
  rw [this]

theorem getItem_tuple_cut {t sl : Addr} {items : Array Value} {vl vu : Value} {lo hi : Option Int} {Q : Value → Shared → Prop} (ht : IsTup s.heap t items) (hs : s.heap.IsSliceOf sl vl vu .none) (pl : IsPart vl lo) (pu : IsPart vu hi)
    (hw : ¬ (sIx items.size 0 lo = 0 ∧ sIx items.size items.size hi = items.size))
    (h : Q (.ref s.heap.objs.size) { s with heap := s.heap.push { cls := .type "tuple", data := .seq ((items.toList.drop (sIx items.size 0 lo)).take (sIx items.size items.size hi - sIx items.size 0 lo)).toArray } })
    (hsz : items.size ≤ sizeLine) : wpAny (model prog w) A (getItem (.ref t) (.ref sl)) Q E s := by
  have htake : sizeOk (.seq ((items.toList.drop (sIx items.size 0 lo)).take (sIx items.size items.size hi - sIx items.size 0 lo)).toArray) := by
    show ((items.toList.drop (sIx items.size 0 lo)).take (sIx items.size items.size hi - sIx items.size 0 lo)).toArray.size ≤ sizeLine
    rw [List.size_toArray, List.length_take, List.length_drop, Array.length_toList]
    omega
  have hj : sIx items.size items.size hi ≤ items.size := sIx_le _ _ (Nat.le_refl _) hi
  obtain ⟨os, hos, hcs, hds⟩ := id hs
  have hTs : s.TypeIs (.ref sl) "slice" := ⟨os, hos, hcs⟩
  unfold getItem
  try with_reducible refine wpAny_holding ?_
  first | refine wpAny_bind (wpAny_pure ?_) | skip
  refine wpAny_bind (wpAny_sequenceKey ht.typeIs (by decide) ?_)
  refine wpAny_bind (wpAny_callSpecial?_slot (name := Str.ofString "__getitem__") ht.typeIs PyProof.Rows.slot_tuple_getitem
    (wpAny_call_entry PyProof.Rows.slot_tuple_getitem ht.typeIs entry_tuple_getitem ?_ (args_tuple_getitem _ _)))
  show wpAny _ _ (Builtin.Tuple.tupleItemsOf (.ref t) >>= _) _ _ s
  refine wpAny_bind (tupleItemsOf_ ht ?_)
  refine wpAny_bind (wpAny_typeOf hTs ?_)
  rw [if_pos (by decide)]
  refine wpAny_bind (sliceApplied_gen hs pl pu ?_)
  have hno : ¬ ((((sIx items.size 0 lo : Nat) : Int) == 0 && (1 : Int) == 1 && (sIx items.size items.size hi - sIx items.size 0 lo) == items.size) = true) := by
    intro q
    rw [Bool.and_eq_true, Bool.and_eq_true] at q
    have q1 : ((sIx items.size 0 lo : Nat) : Int) = 0 := eq_of_beq q.1.1
    have q2 : sIx items.size items.size hi - sIx items.size 0 lo = items.size := eq_of_beq q.2
    exact hw ⟨by omega, by omega⟩
  show wpAny _ _ (if (((sIx items.size 0 lo : Nat) : Int) == 0 && (1 : Int) == 1 && (sIx items.size items.size hi - sIx items.size 0 lo) == items.size) = true then _ else _) _ _ s
  rw [if_neg hno, pick_gen]
  first
    | exact wpAny_bind (m := Builtin.Tuple.tupleExact _) (wpAny_newObj_type (wpAny_pure ⟨_, rfl, wpAny_pure h⟩) htake)
    | exact wpAny_bind (m := Builtin.Tuple.tupleExact _) (wpAny_newObj_type (wpAny_bind (wpAny_pure (wpAny_pure ⟨_, rfl, wpAny_pure h⟩))) htake)
    | exact wpAny_bind (wpAny_bind (m := Builtin.Tuple.tupleExact _) (wpAny_newObj_type (wpAny_pure (wpAny_pure ⟨_, rfl, wpAny_pure h⟩)) htake))
    | exact wpAny_bind (wpAny_bind (m := Builtin.Tuple.tupleExact _) (wpAny_newObj_type (wpAny_pure ⟨_, rfl, wpAny_pure h⟩) htake))
end
end HT

namespace L2
open PySem PySem.Spec PyProof.Rows

/-! ### the parts of a slice -/
abbrev TO := St → Hp → (Option Int → Hp → Prop) → Prop
/-- a slice's part (left out, or an int) -/
def PO (X : Cx) (e : Option Expr) (t : TO) : Prop :=
  ∀ (pins : List (Addr × Obj)) (s : Shared) (σ : St) (H : Hp) (Q : Option Int → Hp → Prop), Inv X pins σ H s → t σ H Q →
    wpAny (model X.prog X.w) X.A (evalPart e X.env) (fun u s' => ∃ o H', Inv X pins σ H' s' ∧ IsPart u o ∧ Q o H') X.xe s
def tNoPart : TO := fun _ H Q => Q none H
def tPart (t : TE) : TO := fun σ H Q => t σ H fun x H1 => ∃ i, x = .int i ∧ Q (some i) H1

theorem intsAre_of {ns : List Int} : ∀ {us : List Value}, Vals (ns.map V.int) us → IntsAre us ns := by
  induction ns with
  | nil => intro us r; rw [List.map_nil] at r; cases r; exact .nil
  | cons n ns ih =>
    intro us r
    rw [List.map_cons] at r
    cases r with
    | cons r1 r2 =>
      obtain ⟨t, e⟩ := r1
      subst e
      exact .cons n t (ih r2)

section
variable {X : Cx} {e : Expr} {te : TE} {lo hi : Option Expr} {tl th : TO} {pos p2 : Pos}

theorem po_none : PO X none tNoPart := by
  intro pins s σ H Q I h
  rw [evalPart_none]
  exact wpAny_pure ⟨none, H, I, .none, h⟩
theorem po_some (h : PE X e te) : PO X (some e) (tPart te) := by
  intro pins s σ H Q I hw
  rw [evalPart_some]
  refine thn (h pins s σ H _ I hw) fun u s1 ⟨x, H1, I1, r1, q1⟩ => ?_
  obtain ⟨i, rfl, q⟩ := q1
  obtain ⟨t, rfl⟩ := r1
  exact ⟨some i, H1, I1, .int i t, q⟩

/-- what a slice of a value is, by values: the slice object stands at sl -/
def SlR (X : Cx) (r : V → Option Int → Option Int → Hp → VK → Prop) : Prop :=
  ∀ (pins : List (Addr × Obj)) (s : Shared) (σ : St) (H : Hp) (x : V) (v vl vu : Value) (lo hi : Option Int) (sl : Addr) (Q : VK), Inv X pins σ H s → RelV x v → s.heap.IsSliceOf sl vl vu .none → IsPart vl lo → IsPart vu hi → r x lo hi H Q →
    ∃ T id, typeLookup (.type T) "__getitem__" = pure (some (.builtin id)) ∧ s.TypeIs v T ∧ wpAny (model X.prog X.w) X.A (getItem v (.ref sl)) (EP X pins σ Q) X.xe s
theorem SlR.or {r r' : V → Option Int → Option Int → Hp → VK → Prop} (h : SlR X r) (h' : SlR X r') : SlR X (fun x lo hi H Q => r x lo hi H Q ∨ r' x lo hi H Q) := by
  intro pins s σ H x v vl vu lo hi sl Q I rx hs pl pu q
  rcases q with q | q
  · exact h pins s σ H x v vl vu lo hi sl Q I rx hs pl pu q
  · exact h' pins s σ H x v vl vu lo hi sl Q I rx hs pl pu q
def tSl (r : V → Option Int → Option Int → Hp → VK → Prop) (te : TE) (tl th : TO) : TE := fun σ H Q => te σ H fun x H1 => tl σ H1 fun l H2 => th σ H2 fun u H3 => r x l u H3 Q
/-- a[lo:hi], any a -/
theorem pe_slice {r : V → Option Int → Option Int → Hp → VK → Prop} (hr : SlR X r) (he : PE X e te) (hl : PO X lo tl) (hu : PO X hi th) : PE X (.Subscript e (.Slice lo hi none p2) pos) (tSl r te tl th) := by
  intro pins s σ H Q I h
  refine Subscript_ (thn (he pins s σ H _ I h) fun v s1 ⟨x, H1, I1, r1, q1⟩ => ?_)
  refine wpAny_Slice (thn (hl pins s1 σ H1 _ I1 q1) fun vl s2 ⟨l, H2, I2, pl, q2⟩ => thn (hu pins s2 σ H2 _ I2 q2) fun vu s3 ⟨u, H3, I3, pu, q3⟩ => ?_)
  rw [evalPart_none]
  refine wpAny_pure ?_
  have I4 : Inv X pins σ H3 { s3 with heap := s3.heap.push { cls := .type "slice", data := .fields #[vl, vu, .none] } } := I3.kept (t' := s3.toks) fun b ob q => Heap.get?_push_of_some _ q
  obtain ⟨T, id, hT, ht, hg⟩ := hr pins { s3 with heap := s3.heap.push { cls := .type "slice", data := .fields #[vl, vu, .none] } } σ H3 x v vl vu l u s3.heap.objs.size Q I4 r1 (Heap.IsSliceOf.new ..) pl pu q3
  show wpAny (model X.prog X.w) X.A (subscriptTail e (.Slice lo hi none p2) v (.ref s3.heap.objs.size)) (EP X pins σ Q) X.xe { s3 with heap := s3.heap.push { cls := .type "slice", data := .fields #[vl, vu, .none] } }
  exact tail_any (ops := [.ref s3.heap.objs.size, v]) ht hT hg (by with_unfolding_all rfl)

/-- the items of xs[lo:hi] -/
def cutV (xs : List V) (lo hi : Option Int) : List V := (xs.drop (HT.sIx xs.length 0 lo)).take (HT.sIx xs.length xs.length hi - HT.sIx xs.length 0 lo)
theorem cutV_length (xs : List V) (lo hi : Option Int) : (cutV xs lo hi).length ≤ xs.length := by
  unfold cutV
  rw [List.length_take, List.length_drop]
  omega
/-- t[lo:hi], not the whole of it (the whole would be t itself) -/
def rSlT (K : PySem.W.Frag) : V → Option Int → Option Int → Hp → VK → Prop := fun x lo hi H Q => ∃ a xs, x = .ref a ∧ SqT K H a xs ∧
  ¬ (HT.sIx xs.length 0 lo = 0 ∧ HT.sIx xs.length xs.length hi = xs.length) ∧ ∀ p, H p = none → Q (.ref p) (upd H p (.tup (cutV xs lo hi)))
theorem sl_tup : SlR X (rSlT X.K) := by
  intro pins s σ H x v vl vu lo hi sl Q I rx hs pl pu h
  obtain ⟨a, xs, rfl, hx, hw, q⟩ := h
  cases rx
  obtain ⟨its, r, ht, hz⟩ := I.tuple hx
  have hlen : its.toArray.size = xs.length := by rw [List.size_toArray]; exact r.length.symm
  refine ⟨"tuple", _, PyProof.Rows.slot_tuple_getitem.lookup, ht.typeIs, ?_⟩
  refine HT.getItem_tuple_cut ht hs pl pu (by rw [hlen]; exact hw) ?_ (by rw [hlen]; exact hz)
  rw [hlen]
  refine ⟨.ref s.heap.objs.size, _, I.laid (t' := s.toks) (o := .tup (cutV xs lo hi)) (fun b ob q => Heap.get?_push_of_some _ q) (Nat.le_refl _) ?_, rfl, q _ (I.hok.fresh (Nat.le_refl _))⟩
  exact ⟨Nat.le_trans (cutV_length xs lo hi) hz, _, (r.drop (HT.sIx xs.length 0 lo)).take (HT.sIx xs.length xs.length hi - HT.sIx xs.length 0 lo), IsTup.new _ _, NoD.new _ rfl⟩

/-! ### t < u, t + u -/
def rLtT (K : PySem.W.Frag) : R2 := fun x y H Q => ∃ a b ns ms, x = .ref a ∧ y = .ref b ∧ SqT K H a (ns.map V.int) ∧ SqT K H b (ms.map V.int) ∧ Q (.bl (HT.lexLt ns ms)) H
theorem op_ltT (hu : X.A.units < cLine) : OpR X (compareOp .Lt) (rLtT X.K) := by
  intro pins s σ H x y v u Q I rx ry h
  obtain ⟨a, b, ns, ms, rfl, rfl, ha, hb, q⟩ := h
  cases rx
  cases ry
  obtain ⟨its, r1, p1, _⟩ := I.tuple ha
  obtain ⟨its2, r2, p2, _⟩ := I.tuple hb
  have i1 : IntsAre its.toArray.toList ns := intsAre_of r1
  have i2 : IntsAre its2.toArray.toList ms := intsAre_of r2
  exact HT.lt_tupInts p1 p2 i1 i2 hu ⟨.bl (HT.lexLt ns ms), H, I, rfl, q⟩
/-- t + u, t not empty: u empty gives t itself -/
def rCatT (K : PySem.W.Frag) : R2 := fun x y H Q => ∃ a b xs ys, x = .ref a ∧ y = .ref b ∧ SqT K H a xs ∧ SqT K H b ys ∧ xs ≠ [] ∧ xs.length + ys.length ≤ sizeLine ∧
  (ys = [] → Q (.ref a) H) ∧ (ys ≠ [] → ∀ p, H p = none → Q (.ref p) (upd H p (.tup (xs ++ ys))))
theorem Vals.nil_iff {xs : List V} {us : List Value} (r : Vals xs us) : us = [] ↔ xs = [] := by
  cases r with
  | nil => simp
  | cons _ _ => simp
theorem op_catT : OpR X (binaryOp .Add) (rCatT X.K) := by
  intro pins s σ H x y v u Q I rx ry h
  obtain ⟨a, b, xs, ys, rfl, rfl, ha, hb, hx, hz, q1, q2⟩ := h
  cases rx
  cases ry
  obtain ⟨its, r1, p1, _⟩ := I.tuple ha
  obtain ⟨its2, r2, p2, _⟩ := I.tuple hb
  refine HT.cat_tup p1 p2 (fun z => hx (r1.nil_iff.mp z)) (fun z => ⟨.ref a, H, I, rfl, q1 (r2.nil_iff.mp z)⟩) (fun z => ?_) (by rw [← r1.length, ← r2.length]; exact hz)
  refine ⟨.ref s.heap.objs.size, _, I.laid (t' := s.toks) (o := .tup (xs ++ ys)) (fun b ob q => Heap.get?_push_of_some _ q) (Nat.le_refl _) ?_, rfl, q2 (fun w => z (r2.nil_iff.mpr w)) _ (I.hok.fresh (Nat.le_refl _))⟩
  exact ⟨by rw [List.length_append]; exact hz, _, r1.append r2, IsTup.new _ _, NoD.new _ rfl⟩
/-- tuple(t) -/
theorem call_tupleT : CallR X (.type "tuple") (fun xs H Q => ∃ a ys, xs = [.ref a] ∧ SqT X.K H a ys ∧ Q (.ref a) H) := by
  intro pins s σ H xs us Q I r h
  obtain ⟨a, ys, rfl, ha, q⟩ := h
  obtain ⟨u, rfl, ru⟩ := vals1 r
  cases ru
  obtain ⟨its, _, p1, _⟩ := I.tuple ha
  exact call_tuple_same (items := its.toArray) p1 ⟨.ref a, H, I, rfl, q⟩
end
end L2

namespace L2
open PySem PySem.Spec PyProof.Rows

/-! ### places -/
/-- the place that an index of any sign means -/
def ixN (n : Nat) (i : Int) : Option Nat := if 0 ≤ i then (if i < n then some i.toNat else none) else if -(n : Int) ≤ i then some (i + n).toNat else none
def atI {α : Type} (xs : List α) (i : Int) : Option α := (ixN xs.length i).bind fun j => xs[j]?
theorem ixN_seq {n : Nat} {i : Int} {j : Nat} (h : ixN n i = some j) : seqIndex? i n = some j ∧ j < n ∧ -(n : Int) ≤ i ∧ i < n := by
  unfold ixN at h
  by_cases h0 : 0 ≤ i
  · rw [if_pos h0] at h
    by_cases h1 : i < n
    · rw [if_pos h1] at h
      have e : i.toNat = j := Option.some.inj h
      exact ⟨by rw [seqIndex_of h0 h1, e], by omega, by omega, h1⟩
    · rw [if_neg h1] at h; cases h
  · rw [if_neg h0] at h
    by_cases h1 : -(n : Int) ≤ i
    · rw [if_pos h1] at h
      have e : (i + n).toNat = j := Option.some.inj h
      exact ⟨by rw [seqIndex_neg (by omega) h1, e], by omega, h1, by omega⟩
    · rw [if_neg h1] at h; cases h
theorem atI_get {α : Type} {xs : List α} {i : Int} {v : α} (h : atI xs i = some v) : ∃ j, seqIndex? i xs.length = some j ∧ xs[j]? = some v ∧ j < xs.length ∧ -(xs.length : Int) ≤ i ∧ i < xs.length := by
  unfold atI at h
  cases e : ixN xs.length i with
  | none => rw [e] at h; cases h
  | some j =>
    rw [e] at h
    obtain ⟨h1, h2, h3, h4⟩ := ixN_seq e
    exact ⟨j, h1, h, h2, h3, h4⟩
theorem atI_nat {α : Type} {xs : List α} {j : Nat} {v : α} (h : xs[j]? = some v) : atI xs (j : Int) = some v := by
  have hj : j < xs.length := (List.getElem?_eq_some_iff.mp h).1
  have e : ixN xs.length (j : Int) = some j := by
    unfold ixN
    rw [if_pos (by omega), if_pos (by omega)]; simp
  unfold atI; rw [e]; exact h
theorem atI_last {α : Type} (xs : List α) (v : α) : atI (xs ++ [v]) (-1) = some v := by
  have hl : (xs ++ [v]).length = xs.length + 1 := by simp
  have e : ixN (xs ++ [v]).length (-1) = some xs.length := by
    unfold ixN
    rw [hl, if_neg (by decide), if_pos (by omega)]
    congr 1
    omega
  unfold atI
  rw [e]
  show (xs ++ [v])[xs.length]? = some v
  simp

/-! ### what may be subscripted -/
/-- what stands as an index of a plain subscript -/
def PlainIx (b : Expr) : Prop := ∀ o i, subscripted b false o i = operate [o, i] (getItem o i)
/-- a subscript by values -/
def IxR (X : Cx) (r : R2) : Prop :=
  ∀ (value slice : Expr) (pins : List (Addr × Obj)) (s : Shared) (σ : St) (H : Hp) (x y : V) (v u : Value) (Q : VK), Inv X pins σ H s → RelV x v → RelV y u → r x y H Q →
    subscripted slice false v u = operate [v, u] (getItem v u) → wpAny (model X.prog X.w) X.A (subscriptTail value slice v u) (EP X pins σ Q) X.xe s
/-- a call of a builtin's method by values: the receiver, the arguments -/
def MtR (X : Cx) (id : String) (r : V → List V → Hp → VK → Prop) : Prop :=
  ∀ (pins : List (Addr × Obj)) (s : Shared) (σ : St) (H : Hp) (x : V) (xs : List V) (v : Value) (us : List Value) (Q : VK), Inv X pins σ H s → RelV x v → Vals xs us → r x xs H Q →
    wpAny (model X.prog X.w) X.A (call (.builtin id) (v :: us)) (EP X pins σ Q) X.xe s
section
variable {X : Cx} {a b : Expr} {ta tb : TE} {pos : Pos}
theorem IxR.or {r r' : R2} (h : IxR X r) (h' : IxR X r') : IxR X (fun x y H Q => r x y H Q ∨ r' x y H Q) := by
  intro value slice pins s σ H x y v u Q I rx ry q hs
  rcases q with q | q
  · exact h value slice pins s σ H x y v u Q I rx ry q hs
  · exact h' value slice pins s σ H x y v u Q I rx ry q hs
theorem MtR.or {id : String} {r r' : V → List V → Hp → VK → Prop} (h : MtR X id r) (h' : MtR X id r') : MtR X id (fun x xs H Q => r x xs H Q ∨ r' x xs H Q) := by
  intro pins s σ H x xs v us Q I rx rs q
  rcases q with q | q
  · exact h pins s σ H x xs v us Q I rx rs q
  · exact h' pins s σ H x xs v us Q I rx rs q
/-- a[b] -/
theorem pe_ix {r : R2} (hr : IxR X r) (ha : PE X a ta) (hb : PE X b tb) (hs : PlainIx b) : PE X (.Subscript a b pos) (tOp r ta tb) := by
  intro pins s σ H Q I h
  exact Subscript_ (binT ha hb I h fun v u s2 x y H2 I2 rx ry q => hr a b pins s2 σ H2 x y v u Q I2 rx ry q (hs _ _))

def rIxL (K : PySem.W.Frag) : R2 := fun x y H Q => ∃ p xs i v, x = .ref p ∧ y = .int i ∧ SqL K H p xs ∧ atI xs i = some v ∧ Q v H
def rIxT (K : PySem.W.Frag) : R2 := fun x y H Q => ∃ p xs i v, x = .ref p ∧ y = .int i ∧ SqT K H p xs ∧ atI xs i = some v ∧ Q v H
def rIxS : R2 := fun x y H Q => ∃ z i c, x = .str z ∧ y = .int i ∧ z.length ≤ sizeLine ∧ atI z.cps.toList i = some c ∧ Q (.str ⟨#[c]⟩) H
theorem ix_list : IxR X (rIxL X.K) := by
  intro value slice pins s σ H x y v u Q I rx ry h hs
  obtain ⟨p, xs, i, z, rfl, rfl, hq, he, q⟩ := h
  cases rx
  obtain ⟨t, rfl⟩ := ry
  obtain ⟨its, r, pl, hz⟩ := I.list hq
  obtain ⟨j, h1, h2, h3, h4, h5⟩ := atI_get he
  obtain ⟨w, ew, rw'⟩ := r.get h2
  have hl := r.length
  have hn := line63
  have fin : EP X pins σ Q w s := ⟨z, H, I, rw', q⟩
  by_cases h0 : 0 ≤ i
  · have hj : i.toNat = j := by
      rw [seqIndex_of h0 h5] at h1
      exact Option.some.inj h1
    exact item_listR pl.isList h0 (by omega) (by rw [hj]; simpa using ew) fin hs
  · have hj : (i + (its.toArray.size : Int)).toNat = j := by
      rw [seqIndex_neg (by omega) h4] at h1
      rw [List.size_toArray, ← hl]
      exact Option.some.inj h1
    exact subscriptTail_builtinR (x := w) pl.isList.typeIs slot_list_getitem.lookup
      (wpAny_getItem_list_neg (Q := fun r s' => r = w ∧ EP X pins σ Q r s') pl.isList (by omega) (by rw [List.size_toArray] <;> omega) (by omega) (by rw [hj]; simpa using ew) ⟨rfl, fin⟩) hs
theorem ix_tup : IxR X (rIxT X.K) := by
  intro value slice pins s σ H x y v u Q I rx ry h hs
  obtain ⟨p, xs, i, z, rfl, rfl, hq, he, q⟩ := h
  cases rx
  obtain ⟨t, rfl⟩ := ry
  obtain ⟨its, r, pl, hz⟩ := I.tuple hq
  obtain ⟨j, h1, h2, h3, h4, h5⟩ := atI_get he
  obtain ⟨w, ew, rw'⟩ := r.get h2
  have hl := r.length
  have hn := line63
  have fin : EP X pins σ Q w s := ⟨z, H, I, rw', q⟩
  exact subscriptTail_builtinR (x := w) pl.typeIs slot_tuple_getitem.lookup
    (getItem_tuple (j := j) (Q := fun r s' => r = w ∧ EP X pins σ Q r s') pl (by omega) (by omega) (by rw [List.size_toArray, ← hl]; exact h1) (by simpa using ew) ⟨rfl, fin⟩) hs
theorem ix_str : IxR X rIxS := by
  intro value slice pins s σ H x y v u Q I rx ry h hs
  obtain ⟨z, i, c, rfl, rfl, hz, he, q⟩ := h
  obtain ⟨t, rfl⟩ := rx
  obtain ⟨t', rfl⟩ := ry
  obtain ⟨j, h1, h2, h3, h4, h5⟩ := atI_get he
  have hl : z.cps.toList.length = z.length := by simp [Str.length]
  rw [hl] at h1 h4 h5
  have hn := line63
  exact tail_any (typeIs_str s z t) slot_str_getitem.lookup (getItem_str (c := c) (by
    have e1 : decide (i < -(2 ^ 63 : Int)) = false := decide_eq_false (by omega)
    have e2 : decide (i ≥ 2 ^ 63) = false := decide_eq_false (by omega)
    rw [e1, e2, Bool.or_false]) (by rw [h1]; simpa using h2) ⟨.str ⟨#[c]⟩, H, I.tok _, ⟨_, rfl⟩, q⟩) hs
/-- list, tuple or str -/
def rIx (K : PySem.W.Frag) : R2 := fun x y H Q => rIxL K x y H Q ∨ rIxT K x y H Q ∨ rIxS x y H Q
theorem ix_seq : IxR X (rIx X.K) := ix_list.or (ix_tup.or ix_str)

/-! ### xs[i] = v, any sign -/
/-- the list's object behind a store -/
theorem mapSeq_set (its : List Value) (n j : Nat) (u : Value) : Obj.mapSeq (·.setIfInBounds j u) { cls := .type "list", data := .seq its.toArray n } = { cls := .type "list", data := .seq (its.set j u).toArray n } := by
  simp [Obj.mapSeq]
theorem Inv.lst {pins : List (Addr × Obj)} {σ : St} {H : Hp} {s : Shared} {p : Addr} {xs : List V} (I : Inv X pins σ H s) (h : H p = some (.lst xs)) :
    ∃ (its : List Value) (n : Nat), Vals xs its ∧ s.heap.get? p = some { cls := .type "list", data := .seq its.toArray n } ∧ xs.length ≤ sizeLine := by
  obtain ⟨z, its, n, r, e⟩ := I.hok p _ h
  exact ⟨its, n, r, e, z⟩
/-- the list at p is written by an update of its object -/
theorem Inv.lstUpd {pins : List (Addr × Obj)} {σ : St} {H : Hp} {s : Shared} {p : Addr} {xs ys : List V} {its its' : List Value} {n n' : Nat} {f : Obj → Obj} (I : Inv X pins σ H s) (h : H p = some (.lst xs))
    (ho : s.heap.get? p = some { cls := .type "list", data := .seq its.toArray n }) (hf : f { cls := .type "list", data := .seq its.toArray n } = { cls := .type "list", data := .seq its'.toArray n' }) (r : Vals ys its') (hz : ys.length ≤ sizeLine) (t : Nat) :
    Inv X pins σ (upd H p (.lst ys)) { s with heap := s.heap.update p f, toks := t } := by
  have e : (s.heap.update p f).get? p = some { cls := .type "list", data := .seq its'.toArray n' } := by
    rw [Heap.get?_update_self f ho (by rw [hf] <;> rfl), hf]
  refine I.write (x := p) (e := p) (by rw [h]; trivial) (.inl rfl) (fun b u hb q => (Heap.get?_update_other _ _ (Ne.symm hb)).trans q) ⟨_, e⟩ ?_
  exact ⟨hz, its', n', r, e⟩
def rSetL : V → V → V → Hp → (Hp → Prop) → Prop := fun o i v H Q => ∃ p xs k j, o = .ref p ∧ i = .int k ∧ H p = some (.lst xs) ∧ ixN xs.length k = some j ∧ Q (upd H p (.lst (xs.set j v)))
theorem set_list : PSet X rSetL := by
  intro pins s σ H o i v ov iv u Q I ro ri rv h
  obtain ⟨p, xs, k, j, rfl, rfl, hp, hj, q⟩ := h
  cases ro
  obtain ⟨t, rfl⟩ := ri
  obtain ⟨its, n, r, ho, hz⟩ := I.lst hp
  obtain ⟨h1, h2, h3, h4⟩ := ixN_seq hj
  have hl := r.length
  have hn := line63
  have I' : Inv X pins σ (upd H p (.lst (xs.set j v))) { s with heap := s.heap.update p (Obj.mapSeq (·.setIfInBounds j u)) } :=
    I.lstUpd hp ho (mapSeq_set its n j u) (r.set rv j) (by rw [List.length_set]; exact hz) s.toks
  by_cases h0 : 0 ≤ k
  · have hk : k.toNat = j := by
      rw [seqIndex_of h0 h4] at h1
      exact Option.some.inj h1
    exact PySem.W.ki_setAt ho h0 (by omega) (by rw [List.size_toArray, ← hl]; exact h4) (by rw [hk]; exact ⟨_, I', q⟩)
  · have hk : (k + (its.toArray.size : Int)).toNat = j := by
      rw [seqIndex_neg (by omega) h3] at h1
      rw [List.size_toArray, ← hl]
      exact Option.some.inj h1
    exact PySem.W.ki_setBack ho (by omega) (by rw [List.size_toArray, ← hl]; exact h3) (by omega) (by rw [hk]; exact ⟨_, I', q⟩)

/-! ### slices -/
theorem slice_bounds (lo hi : Option Int) (n : Nat) : (sliceBounds lo hi none n).1 = ((HT.sIx n 0 lo : Nat) : Int) ∧ (sliceBounds lo hi none n).2.1 = ((HT.sIx n n hi : Nat) : Int) ∧ (sliceBounds lo hi none n).2.2 = 1 := by
  refine ⟨?_, ?_, rfl⟩
  · cases lo with
    | none => simp [sliceBounds, HT.sIx]
    | some i =>
      simp only [sliceBounds, HT.sIx, Option.getD_none, show (1 : Int) > 0 by decide, if_true]
      by_cases h : i < 0
      · simp only [h, if_true] <;> omega
      · simp only [h, if_false] <;> omega
  · cases hi with
    | none => simp [sliceBounds, HT.sIx]
    | some i =>
      simp only [sliceBounds, HT.sIx, Option.getD_none, show (1 : Int) > 0 by decide, if_true]
      by_cases h : i < 0
      · simp only [h, if_true] <;> omega
      · simp only [h, if_false] <;> omega
theorem slicePick_cut (its : List Value) (lo hi : Option Int) : slicePick its.toArray lo hi none = ((its.drop (HT.sIx its.length 0 lo)).take (HT.sIx its.length its.length hi - HT.sIx its.length 0 lo)).toArray := by
  obtain ⟨h1, h2, h3⟩ := slice_bounds lo hi its.toArray.size
  unfold slicePick
  rw [h1, h2, h3]
  simp only [sliceRange_one, pick_run, List.size_toArray] <;> rfl
/-- xs[lo:hi] of a list: a new list -/
def rSlL (K : PySem.W.Frag) : V → Option Int → Option Int → Hp → VK → Prop := fun x lo hi H Q => ∃ a xs, x = .ref a ∧ SqL K H a xs ∧ ∀ p, H p = none → Q (.ref p) (upd H p (.lst (cutV xs lo hi)))
theorem sl_list : SlR X (rSlL X.K) := by
  intro pins s σ H x v vl vu lo hi sl Q I rx hs pl pu h
  obtain ⟨a, xs, rfl, hx, q⟩ := h
  cases rx
  obtain ⟨its, r, ht, hz⟩ := I.list hx
  have hlen := r.length
  refine ⟨"list", _, slot_list_getitem.lookup, ht.isList.typeIs, ?_⟩
  refine wpAny_getItem_list_slice ht.isList hs pl pu .none (by simp) ?_ (by rw [List.size_toArray] <;> omega)
  rw [slicePick_cut, ← hlen]
  refine ⟨.ref s.heap.objs.size, _, I.laid (t' := s.toks) (o := .lst (cutV xs lo hi)) (fun b ob q => Heap.get?_push_of_some _ q) (Nat.le_refl _) ?_, rfl, q _ (I.hok.fresh (Nat.le_refl _))⟩
  exact ⟨Nat.le_trans (cutV_length xs lo hi) hz, _, 0, (r.drop (HT.sIx xs.length 0 lo)).take (HT.sIx xs.length xs.length hi - HT.sIx xs.length 0 lo), Heap.get?_push_size _ rfl⟩

/-! ### in, not in: flat items -/
def flatV : V → Bool
  | .non => true
  | .bl _ => true
  | .int _ => true
  | .str _ => true
  | _ => false
/-- == of flat values -/
def eqV : V → V → Bool
  | .non, .non => true
  | .bl a, .bl b => a == b
  | .bl a, .int b => (if a then 1 else 0) == b
  | .int a, .bl b => a == (if b then 1 else 0)
  | .int a, .int b => a == b
  | .str a, .str b => a == b
  | _, _ => false
theorem eqAt_V {A : Around} {s : Shared} {y x : V} {u v : Value} (ry : RelV y u) (rx : RelV x v) (fy : flatV y = true) (fx : flatV x = true) : SeqAt.EqAt A s u v (eqV y x) := by
  cases y with
  | non =>
    cases ry
    cases x with
    | non => cases rx; exact SeqAt.EqAt.same _
    | bl b => cases rx; exact SeqAt.EqAt.none_bool b
    | int b => obtain ⟨t, rfl⟩ := rx; exact SeqAt.EqAt.none_int b t
    | str b => obtain ⟨t, rfl⟩ := rx; exact SeqAt.EqAt.none_str b t
    | _ => exact absurd (show false = true from fx) Bool.false_ne_true
  | bl a =>
    cases ry
    cases x with
    | non => cases rx; exact SeqAt.EqAt.bool_none a
    | bl b => cases rx; exact SeqAt.EqAt.bool_bool a b
    | int b => obtain ⟨t, rfl⟩ := rx; exact SeqAt.EqAt.bool_int a b t
    | str b => obtain ⟨t, rfl⟩ := rx; exact SeqAt.EqAt.bool_str a b t
    | _ => exact absurd (show false = true from fx) Bool.false_ne_true
  | int a =>
    obtain ⟨t', rfl⟩ := ry
    cases x with
    | non => cases rx; exact SeqAt.EqAt.int_none a t'
    | bl b => cases rx; exact SeqAt.EqAt.int_bool a t' b
    | int b => obtain ⟨t, rfl⟩ := rx; exact SeqAt.EqAt.int_int a t' b t
    | str b => obtain ⟨t, rfl⟩ := rx; exact SeqAt.EqAt.int_str a t' b t
    | _ => exact absurd (show false = true from fx) Bool.false_ne_true
  | str a =>
    obtain ⟨t', rfl⟩ := ry
    cases x with
    | non => cases rx; exact SeqAt.EqAt.str_none a t'
    | bl b => cases rx; exact SeqAt.EqAt.str_bool a t' b
    | int b => obtain ⟨t, rfl⟩ := rx; exact SeqAt.EqAt.str_int a t' b t
    | str b => obtain ⟨t, rfl⟩ := rx; exact SeqAt.EqAt.str_str a t' b t
    | _ => exact absurd (show false = true from fx) Bool.false_ne_true
  | _ => exact absurd (show false = true from fy) Bool.false_ne_true
/-- the items' answers, read off the values (a value's own answer does not lean on its token) -/
def eqU (x : V) (u : Value) : Bool := match u with
  | .none => eqV .non x
  | .bool b => eqV (.bl b) x
  | .int i _ => eqV (.int i) x
  | .str z _ => eqV (.str z) x
  | _ => false
theorem eqU_of {x y : V} {u : Value} (r : RelV y u) (f : flatV y = true) : eqU x u = eqV y x := by
  cases y with
  | non => cases r; rfl
  | bl b => cases r; rfl
  | int i => obtain ⟨t, rfl⟩ := r; rfl
  | str z => obtain ⟨t, rfl⟩ := r; rfl
  | _ => exact absurd (show false = true from f) Bool.false_ne_true
theorem any_eqU {x : V} : ∀ {xs : List V} {us : List Value}, Vals xs us → xs.all flatV = true → us.any (eqU x) = xs.any fun y => eqV y x
  | _, _, .nil, _ => rfl
  | y :: xs, u :: us, .cons r t, f => by
    rw [List.all_cons, Bool.and_eq_true] at f
    rw [List.any_cons, List.any_cons, eqU_of r f.1, any_eqU t f.2]
theorem mem_eqAt {A : Around} {s : Shared} {x : V} {v : Value} (rx : RelV x v) (fx : flatV x = true) : ∀ {xs : List V} {us : List Value}, Vals xs us → xs.all flatV = true → ∀ u ∈ us, SeqAt.EqAt A s u v (eqU x u)
  | _, _, .nil, _ => fun u hu => by cases hu
  | y :: xs, u :: us, .cons r t, f => fun u' hu => by
    rw [List.all_cons, Bool.and_eq_true] at f
    rcases List.mem_cons.mp hu with rfl | hu
    · rw [eqU_of r f.1]; exact eqAt_V r rx f.1 fx
    · exact mem_eqAt rx fx t f.2 u' hu
def inV (x : V) (xs : List V) : Bool := xs.any fun y => eqV y x
/-- x in a list or tuple of flat items -/
def rIn (K : PySem.W.Frag) (neg : Bool) : R2 := fun x y H Q => ∃ p xs, y = .ref p ∧ (SqL K H p xs ∨ SqT K H p xs) ∧ flatV x = true ∧ xs.all flatV = true ∧ Q (.bl (if neg then !inV x xs else inV x xs)) H
theorem op_in_seq : OpR X (compareOp .In) (rIn X.K false) := by
  intro pins s σ H x y v u Q I rx ry h
  obtain ⟨p, xs, rfl, hq, fx, fs, q⟩ := h
  cases ry
  rcases hq with hq | hq
  · obtain ⟨its, r, pl, hz⟩ := I.list hq
    refine SeqAt.in_listAt (eqU x) pl.isList (fun w hw => mem_eqAt rx fx r fs w (by simpa using hw)) ⟨.bl _, H, I, rfl, ?_⟩
    rw [show its.toArray.any (eqU x) = its.any (eqU x) by simp, any_eqU r fs]
    exact q
  · obtain ⟨its, r, pl, hz⟩ := I.tuple hq
    refine SeqAt.in_tupleAt (eqU x) pl (fun w hw => mem_eqAt rx fx r fs w (by simpa using hw)) ⟨.bl _, H, I, rfl, ?_⟩
    rw [show its.toArray.any (eqU x) = its.any (eqU x) by simp, any_eqU r fs]
    exact q
theorem op_notIn_seq : OpR X (compareOp .NotIn) (rIn X.K true) := by
  intro pins s σ H x y v u Q I rx ry h
  obtain ⟨p, xs, rfl, hq, fx, fs, q⟩ := h
  cases ry
  rcases hq with hq | hq
  · obtain ⟨its, r, pl, hz⟩ := I.list hq
    refine SeqAt.notIn_listAt (eqU x) pl.isList (fun w hw => mem_eqAt rx fx r fs w (by simpa using hw)) ⟨.bl _, H, I, rfl, ?_⟩
    rw [show its.toArray.any (eqU x) = its.any (eqU x) by simp, any_eqU r fs]
    exact q
  · obtain ⟨its, r, pl, hz⟩ := I.tuple hq
    refine SeqAt.notIn_tupleAt (eqU x) pl (fun w hw => mem_eqAt rx fx r fs w (by simpa using hw)) ⟨.bl _, H, I, rfl, ?_⟩
    rw [show its.toArray.any (eqU x) = its.any (eqU x) by simp, any_eqU r fs]
    exact q
theorem op_notIn_str : OpR X (compareOp .NotIn) (fun x y H Q => ∃ i j, x = .str i ∧ y = .str j ∧ Q (.bl (!(!(Builtin.Str.occurrences j i 0 j.length 1).isEmpty))) H) := by
  intro pins s σ H x y v u Q I rx ry h
  obtain ⟨i, j, rfl, rfl, q⟩ := h
  obtain ⟨t, rfl⟩ := rx
  obtain ⟨t', rfl⟩ := ry
  exact notIn_str ⟨.bl _, H, I, rfl, q⟩

/-! ### len, list(x), tuple(x) of any list or tuple that is read -/
theorem call_len_seq : CallR X (.builtin "len") (fun xs H Q => ∃ p ys, xs = [.ref p] ∧ (SqL X.K H p ys ∨ SqT X.K H p ys) ∧ Q (.int ys.length) H) := by
  intro pins s σ H xs us Q I r h
  obtain ⟨p, ys, rfl, hq, q⟩ := h
  obtain ⟨u, rfl, rx⟩ := vals1 r
  cases rx
  have hn := line63
  rcases hq with hq | hq
  · obtain ⟨its, r', pl, hz⟩ := I.list hq
    have hlen := r'.length
    exact Calls.call_len_list pl.isList (by simp only [List.size_toArray] <;> omega) ⟨.int ys.length, H, I.tok _, ⟨s.toks + 1, by rw [List.size_toArray, hlen]⟩, q⟩
  · obtain ⟨its, r', pl, hz⟩ := I.tuple hq
    have hlen := r'.length
    exact len_tuple pl (by simp only [List.size_toArray] <;> omega) ⟨.int ys.length, H, I.tok _, ⟨s.toks + 1, by rw [List.size_toArray, hlen]⟩, q⟩
theorem call_len_str : CallR X (.builtin "len") (fun xs H Q => ∃ z, xs = [.str z] ∧ z.length ≤ sizeLine ∧ Q (.int z.length) H) := by
  intro pins s σ H xs us Q I r h
  obtain ⟨z, rfl, hz, q⟩ := h
  obtain ⟨u, rfl, t, rfl⟩ := vals1 r
  have hn := line63
  exact len_str (by omega) ⟨.int z.length, H, I.tok _, ⟨_, rfl⟩, q⟩
theorem CallR.or {f : Value} {r r' : List V → Hp → VK → Prop} (h : CallR X f r) (h' : CallR X f r') : CallR X f (fun xs H Q => r xs H Q ∨ r' xs H Q) := by
  intro pins s σ H xs us Q I rs q
  rcases q with q | q
  · exact h pins s σ H xs us Q I rs q
  · exact h' pins s σ H xs us Q I rs q
theorem call_list_of : CallR X (.type "list") (fun xs H Q => ∃ p ys, xs = [.ref p] ∧ (SqL X.K H p ys ∨ SqT X.K H p ys) ∧ ∀ l, H l = none → Q (.ref l) (upd H l (.lst ys))) := by
  intro pins s σ H xs us Q I r h
  obtain ⟨p, ys, rfl, hq, q⟩ := h
  obtain ⟨u, rfl, rx⟩ := vals1 r
  cases rx
  have fin : ∀ (its : List Value), Vals ys its → ys.length ≤ sizeLine → ∀ (h' : Heap) (c' : Nat), (∀ b o', s.heap.get? b = some o' → h'.get? b = some o') →
      h'.get? s.heap.objs.size = some { cls := .type "list", dict := none, data := .seq its.toArray c', slots := #[] } → EP X pins σ Q (.ref s.heap.objs.size) { s with heap := h' } := fun its r' hz h' c' kp e =>
    ⟨.ref s.heap.objs.size, _, I.laid (t' := s.toks) kp (Nat.le_refl _) (show ObjOk X.prog X.w _ h' _ (.lst ys) from ⟨hz, its, c', r', e⟩), rfl, q _ (I.hok.fresh (Nat.le_refl _))⟩
  rcases hq with hq | hq
  · obtain ⟨its, r', pl, hz⟩ := I.list hq
    have hlen := r'.length
    obtain ⟨o, ho, hc, n, hd⟩ := pl.isList
    exact call_list_seq p (.inl rfl) ho hc hd (fun h' c' kp e => fin its r' hz h' c' kp e) (by simp only [List.size_toArray] <;> omega)
  · obtain ⟨its, r', pl, hz⟩ := I.tuple hq
    have hlen := r'.length
    obtain ⟨o, ho, hc, n, hd⟩ := pl
    exact call_list_seq p (.inr rfl) ho hc hd (fun h' c' kp e => fin its r' hz h' c' kp e) (by simp only [List.size_toArray] <;> omega)
theorem call_tuple_of : CallR X (.type "tuple") (fun xs H Q => ∃ p ys, xs = [.ref p] ∧ ((SqL X.K H p ys ∧ ∀ l, H l = none → Q (.ref l) (upd H l (.tup ys))) ∨ (SqT X.K H p ys ∧ Q (.ref p) H))) := by
  intro pins s σ H xs us Q I r h
  obtain ⟨p, ys, rfl, h⟩ := h
  obtain ⟨u, rfl, rx⟩ := vals1 r
  cases rx
  rcases h with ⟨hq, q⟩ | ⟨hq, q⟩
  · obtain ⟨its, r', pl, hz⟩ := I.list hq
    have hlen := r'.length
    refine call_tuple_list pl.isList (fun h' kp => ?_) (by simp only [List.size_toArray] <;> omega)
    have I1 : Inv X pins σ H { s with heap := h' } := I.kept (t' := s.toks) kp
    have I2 : Inv X pins σ (upd H h'.objs.size (.tup ys)) { s with heap := h'.push { cls := .type "tuple", data := .seq its.toArray } } :=
      I1.laid (t' := s.toks) (fun b o e => Heap.get?_push_of_some _ e) (Nat.le_refl _) (show ObjOk X.prog X.w _ _ _ (.tup ys) from ⟨hz, its, r', IsTup.new _ _, NoD.new _ rfl⟩)
    exact ⟨.ref h'.objs.size, _, I2, rfl, q _ (I1.hok.fresh (Nat.le_refl _))⟩
  · obtain ⟨its, r', pl, hz⟩ := I.tuple hq
    exact call_tuple_same pl ⟨.ref p, H, I, rfl, q⟩

/-! ### the call of a builtin's method: o.m(..) -/
/-- the value is of that builtin type -/
def tyV (K : PySem.W.Frag) (T : String) (x : V) (H : Hp) : Prop := match x with
  | .str _ => T = "str"
  | .int _ => T = "int"
  | .ref p => (T = "list" ∧ ∃ xs, SqL K H p xs) ∨ (T = "tuple" ∧ ∃ o, K.lookup p = some o ∧ o.cls = .type "tuple" ∧ o.dict = none) ∨
      (T = "dict" ∧ ((∃ kvs, H p = some (.dK kvs)) ∨ ∃ kvs, H p = some (.dT kvs))) ∨ (T = "set" ∧ ∃ S n, H p = some (.set S n))
  | _ => False
theorem tyV_is {pins : List (Addr × Obj)} {σ : St} {H : Hp} {s : Shared} {T : String} {x : V} {v : Value} (I : Inv X pins σ H s) (r : RelV x v) (ty : tyV X.K T x H) :
    s.TypeIs v T ∧ ∀ a, v = .ref a → ∃ ob, s.heap.get? a = some ob ∧ ob.dict = none := by
  cases x with
  | str z =>
    obtain ⟨t, rfl⟩ := r
    cases (show T = "str" from ty)
    exact ⟨typeIs_str s z t, fun _ e => nomatch e⟩
  | int i =>
    obtain ⟨t, rfl⟩ := r
    cases (show T = "int" from ty)
    exact ⟨typeIs_int s i t, fun _ e => nomatch e⟩
  | ref p =>
    cases r
    rcases ty with ⟨rfl, xs, hq⟩ | ⟨rfl, o, hk, hc, hd⟩ | ⟨rfl, hk⟩ | ⟨rfl, S, n, hk⟩
    · obtain ⟨its, _, pl, _⟩ := I.list hq
      refine ⟨pl.isList.typeIs, fun a e => ?_⟩
      cases e
      obtain ⟨o, n, e, c, hd, _⟩ := pl
      exact ⟨o, e, hd⟩
    · refine ⟨⟨o, I.kIn p o hk, hc⟩, fun a e => ?_⟩
      cases e
      exact ⟨o, I.kIn _ o hk, hd⟩
    · have z : ∃ o, s.heap.get? p = some o ∧ o.ExactDict := by
        rcases hk with ⟨kvs, hk⟩ | ⟨kvs, hk⟩
        · obtain ⟨_, _, _, _, o, _, _, e, ex, _⟩ := I.hok p _ hk
          exact ⟨o, e, ex⟩
        · obtain ⟨_, _, _, _, o, _, _, e, ex, _⟩ := I.hok p _ hk
          exact ⟨o, e, ex⟩
      obtain ⟨o, e, ex⟩ := z
      refine ⟨⟨o, e, ex.1⟩, fun a e2 => ?_⟩
      cases e2
      exact ⟨o, e, ex.2.1⟩
    · obtain ⟨o, _, _, _, e, ex, _⟩ := I.hok p _ hk
      refine ⟨⟨o, e, ex.1⟩, fun a e2 => ?_⟩
      cases e2
      exact ⟨o, e, ex.2.1⟩
  | _ => exact False.elim ty
def tBM0 (K : PySem.W.Frag) (T : String) (r : V → List V → Hp → VK → Prop) (to : TE) : TE := fun σ H Q => to σ H fun x H1 => tyV K T x H1 ∧ r x [] H1 Q
def tBM (K : PySem.W.Frag) (T : String) (r : V → List V → Hp → VK → Prop) (to : TE) (t : TA) : TE := fun σ H Q => to σ H fun x H1 => tyV K T x H1 ∧ t σ H1 fun xs H2 => r x xs H2 Q
variable {o e : Expr} {es : List Expr} {to : TE} {t : TA} {name : Str} {apos cpos : Pos} {T id : String} {r : V → List V → Hp → VK → Prop}
theorem pe_bm0 (pa : PlainAttrs T) (slot : Slot T name id) (hty : typeOf (.builtin id) = pure (.type "method_descriptor")) (hm : MtR X id r) (ho : PE X o to)
    (hbase : attributeBase o name X.env (eval o X.env) = eval o X.env := by rfl) (hline : (apos.endLine == cpos.line) = true := by rfl) : PE X (.Call (.Attribute o name apos) [] [] cpos) (tBM0 X.K T r to) := by
  intro pins s σ H Q I h
  refine wpAny_Call_method0_late hbase hline (thn (ho pins s σ H _ I h) fun v s1 ⟨x, H1, I1, r1, ty, q1⟩ => ?_)
  obtain ⟨h1, h2⟩ := tyV_is I1 r1 ty
  exact ⟨T, id, pa, slot, hty, h1, h2, Calls.callWith_builtin rfl (PySem.evalArgs_none (hm pins s1 σ H1 x [] v [] Q I1 r1 .nil q1))⟩
theorem pe_bm (pa : PlainAttrs T) (slot : Slot T name id) (hty : typeOf (.builtin id) = pure (.type "method_descriptor")) (hm : MtR X id r) (ho : PE X o to) (ha : PA X (e :: es) t)
    (hbase : attributeBase o name X.env (eval o X.env) = eval o X.env := by rfl)
    (hfew : ((backTo cpos (starEach (e :: es) X.env)).all (fun x => !x.1) && (backToKw cpos (keywordEach [] X.env)).all (fun x => x.1.isSome)
      && decide ((e :: es).length + ([] : List Keyword).length + (if ([] : List Keyword).isEmpty then 0 else 1) < 30)) = true := by rfl)
    (hline : (apos.endLine == cpos.line) = true := by rfl) (hs : starEach (e :: es) X.env = (false, eval e X.env) :: starEach es X.env := by rfl) (hplain : (backTo cpos (starEach es X.env)).any (·.1) = false := by rfl) :
    PE X (.Call (.Attribute o name apos) (e :: es) [] cpos) (tBM X.K T r to t) := by
  intro pins s σ H Q I h
  refine wpAny_Call_method_late hbase hfew hline rfl (thn (ho pins s σ H _ I h) fun v s1 ⟨x, H1, I1, r1, ty, q1⟩ => ?_)
  obtain ⟨h1, h2⟩ := tyV_is I1 r1 ty
  refine ⟨T, id, pa, slot, hty, h1, h2, ?_⟩
  have hA := ha cpos pins s1 σ H1 _ I1 q1
  rw [hs] at hA ⊢
  refine Calls.callWith_builtin (by show (false || (backTo cpos (starEach es X.env)).any (·.1)) = false; rw [hplain] <;> rfl) (Calls.evalArgs_plain ?_)
  exact thn hA fun us s2 ⟨vs, H2, I2, r2, q2⟩ => hm pins s2 σ H2 x vs v us Q I2 r1 r2 q2
/- xs.append(e), list.index on a module's tuple .. are MtR facts of 06m -/
end
end L2

namespace L2
open PySem PySem.Spec PyProof.Rows

def MtM (X : Cx) (id : String) (r : V → List V → Hp → VK → Prop) : Prop :=
  ∀ (pins : List (Addr × Obj)) (s : Shared) (σ : St) (H : Hp) (x : V) (xs : List V) (v : Value) (us : List Value) (Q : VK), Inv X pins σ H s → RelV x v → Vals xs us → r x xs H Q →
    wpAny (model X.prog X.w) X.A (call (.builtin id) (v :: us)) (EP X pins σ Q) X.xe s

/-! ### lists of values -/
theorem Vals.one : ∀ {x : V} {us : List Value}, Vals [x] us → ∃ u, us = [u] ∧ RelV x u
  | _, _, .cons r .nil => ⟨_, rfl, r⟩
theorem Vals.two : ∀ {x y : V} {us : List Value}, Vals [x, y] us → ∃ u v, us = [u, v] ∧ RelV x u ∧ RelV y v
  | _, _, _, .cons r (.cons q .nil) => ⟨_, _, rfl, r, q⟩
theorem Vals.zero : ∀ {us : List Value}, Vals [] us → us = []
  | _, .nil => rfl
theorem Vals.dropLast {xs : List V} {us : List Value} (h : Vals xs us) : Vals xs.dropLast us.dropLast := by
  induction h with
  | nil => exact .nil
  | cons r t ih =>
    cases t with
    | nil => exact .nil
    | cons q t' => exact .cons r ih
theorem Vals.eraseIdx : ∀ {xs : List V} {us : List Value} (i : Nat), Vals xs us → Vals (xs.eraseIdx i) (us.eraseIdx i)
  | _, _, _, .nil => .nil
  | _, _, 0, .cons _ t => t
  | _, _, i + 1, .cons r t => .cons r (Vals.eraseIdx i t)
theorem Vals.reverse {xs : List V} {us : List Value} (h : Vals xs us) : Vals xs.reverse us.reverse := by
  induction h with
  | nil => exact .nil
  | cons r t ih => rw [List.reverse_cons, List.reverse_cons]; exact Vals.append ih (.cons r .nil)
theorem Vals.rep {xs : List V} {us : List Value} (h : Vals xs us) : ∀ k : Nat, Vals (List.replicate k xs).flatten (List.replicate k us).flatten
  | 0 => .nil
  | k + 1 => by
    rw [List.replicate_succ, List.replicate_succ, List.flatten_cons, List.flatten_cons]
    exact Vals.append h (Vals.rep h k)
theorem erase_last {α : Type} (l : List α) : l.eraseIdx (l.length - 1) = l.dropLast := by
  induction l with
  | nil => rfl
  | cons a r ih =>
    cases r with
    | nil => rfl
    | cons b r =>
      have e : (a :: b :: r).length - 1 = ((b :: r).length - 1) + 1 := by
        have h1 : (a :: b :: r).length = r.length + 2 := rfl
        have h2 : (b :: r).length = r.length + 1 := rfl
        omega
      rw [e, List.eraseIdx_cons_succ, ih]
      all_goals rfl
theorem len_erase {α : Type} : ∀ (l : List α) (i : Nat), (l.eraseIdx i).length ≤ l.length
  | [], _ => Nat.le_refl _
  | _ :: _, 0 => Nat.le_succ _
  | _ :: r, i + 1 => Nat.succ_le_succ (len_erase r i)
theorem foldl_rep (its : List Value) : ∀ (k : Nat) (acc : List Value),
    List.foldl (fun x1 x2 => x1 ++ x2) acc.toArray (List.replicate k its.toArray) = (acc ++ (List.replicate k its).flatten).toArray
  | 0, acc => by simp
  | k + 1, acc => by
    have e : acc.toArray ++ its.toArray = (acc ++ its).toArray := by simp
    have e2 : (acc ++ its) ++ (List.replicate k its).flatten = acc ++ (List.replicate (k + 1) its).flatten := by
      rw [List.replicate_succ, List.flatten_cons, List.append_assoc]
    rw [← e2, ← foldl_rep its k (acc ++ its), ← e, List.replicate_succ, List.foldl_cons]

section
variable {X : Cx} {pins : List (Addr × Obj)} {σ : St} {H : Hp} {s : Shared} {l b : Addr} {xs ys zs : List V}

/-! ### the two steps: a tracked list is rewritten, a new list is laid -/
theorem Inv.lset {its its' : List Value} {n : Nat} {f : Array Value → Array Value} {t' : Nat} (I : Inv X pins σ H s) (hH : H l = some (.lst xs))
    (e : s.heap.get? l = some { cls := .type "list", data := .seq its.toArray n }) (hf : f its.toArray = its'.toArray) (hv : Vals ys its') (hz : ys.length ≤ sizeLine) :
    Inv X pins σ (upd H l (.lst ys)) { s with heap := s.heap.update l (Obj.mapSeq f), toks := t' } := by
  have q := PySem.IsL.update e f
  rw [hf] at q
  refine I.write (x := l) (e := l) (by rw [hH]; exact trivial) (.inl rfl) (fun b' u hb hu => (Heap.get?_update_other s.heap (Obj.mapSeq f) (Ne.symm hb)).trans hu) ⟨_, q⟩ ?_
  exact ⟨hz, its', _, hv, q⟩
theorem Inv.lnew {its : List Value} {t' : Nat} (I : Inv X pins σ H s) (hv : Vals ys its) (hz : ys.length ≤ sizeLine) :
    Inv X pins σ (upd H s.heap.objs.size (.lst ys)) { s with heap := s.heap.push { cls := .type "list", data := .seq its.toArray }, toks := t' } :=
  I.laid (fun _ _ q => Heap.get?_push_of_some _ q) (Nat.le_refl _) ⟨hz, its, 0, hv, Heap.get?_push_size _ rfl⟩
theorem Inv.fresh (I : Inv X pins σ H s) : H s.heap.objs.size = none := I.hok.fresh (Nat.le_refl _)
theorem Inv.lstM (I : Inv X pins σ H s) (hH : H l = some (.lst xs)) : xs.length ≤ sizeLine ∧ ∃ (its : List Value) (n : Nat), Vals xs its ∧ xs.length = its.length ∧ s.heap.get? l = some { cls := .type "list", data := .seq its.toArray n } := by
  obtain ⟨z, its, n, r, e⟩ := I.hok l _ hH
  exact ⟨z, its, n, r, r.length, e⟩

theorem notLongL {n : Nat} (h : n ≤ sizeLine) : Builtin.List.listTooLong n = false := by
  unfold Builtin.List.listTooLong
  exact decide_eq_false (by omega)
end

section
variable {X : Cx}

/-! ### methods -/
def rAppend : V → List V → Hp → VK → Prop := fun x vs H Q => ∃ l xs y, x = .ref l ∧ vs = [y] ∧ H l = some (.lst xs) ∧ xs.length < sizeLine ∧ Q .non (upd H l (.lst (xs ++ [y])))
theorem mt_append : MtM X "list.append" rAppend := by
  intro pins s σ H x vs v us Q I rx rv h
  obtain ⟨l, xs, y, rfl, rfl, hH, hz, q⟩ := h
  cases rx
  obtain ⟨u, rfl, ru⟩ := rv.one
  obtain ⟨z, its, n, r, hl, e⟩ := I.lstM hH
  refine call_meets F.slot_list_append ⟨_, e, rfl⟩ F.entry_list_append (F.args_list_append_2 _ _) (PySem.list_append l its.toArray n u (by rw [List.size_toArray]; omega)) ⟨e, ?_⟩
  refine ⟨.non, _, I.lset (its' := its ++ [u]) hH e (by simp) (r.append (.cons ru .nil)) ?_, rfl, q⟩
  rw [List.length_append, List.length_singleton]
  omega

def rExtend : V → List V → Hp → VK → Prop := fun x vs H Q => ∃ l b xs zs, x = .ref l ∧ vs = [.ref b] ∧ H l = some (.lst xs) ∧ H b = some (.lst zs) ∧ xs.length + zs.length ≤ sizeLine ∧ Q .non (upd H l (.lst (xs ++ zs)))
theorem mt_extend : MtM X "list.extend" rExtend := by
  intro pins s σ H x vs v us Q I rx rv h
  obtain ⟨l, b, xs, zs, rfl, rfl, hH, hB, hz, q⟩ := h
  cases rx
  obtain ⟨u, rfl, ru⟩ := rv.one
  cases ru
  obtain ⟨z, its, n, r, hl, e⟩ := I.lstM hH
  obtain ⟨z2, its2, n2, r2, hl2, e2⟩ := I.lstM hB
  have hsz : its.toArray.size + its2.toArray.size ≤ sizeLine := by rw [List.size_toArray, List.size_toArray]; omega
  have hlong : ¬ (!its.toArray.isEmpty && Builtin.List.listTooLong (its.toArray.size + its2.toArray.size)) = true := by
    rw [notLongL hsz, Bool.and_false]
    exact Bool.false_ne_true
  refine call_meets F.slot_list_extend ⟨_, e, rfl⟩ F.entry_list_extend (F.args_list_extend_2 _ _)
    (AutoSeq1.list_extend_list_list_0 l its.toArray n b its2.toArray n2 hlong (by rw [List.size_toArray]; omega) (by omega)) ⟨e, e2, ?_⟩
  refine ⟨.non, _, I.lset (its' := its ++ its2) hH e (by simp) (r.append r2) ?_, rfl, q⟩
  rw [List.length_append]
  omega

def rPop : V → List V → Hp → VK → Prop := fun x vs H Q => ∃ l xs y, x = .ref l ∧ vs = [] ∧ H l = some (.lst xs) ∧ xs[xs.length - 1]? = some y ∧ Q y (upd H l (.lst xs.dropLast))
theorem mt_pop : MtM X "list.pop" rPop := by
  intro pins s σ H x vs v us Q I rx rv h
  obtain ⟨l, xs, y, rfl, rfl, hH, hy, q⟩ := h
  cases rx
  have hus := rv.zero
  subst hus
  obtain ⟨z, its, n, r, hl, e⟩ := I.lstM hH
  obtain ⟨u, hu, ru⟩ := r.get hy
  have hy' : its.toArray[its.toArray.size - 1]? = some u := by
    show its.toArray[its.length - 1]? = some u
    rw [← Array.getElem?_toList, ← hl]
    exact hu
  refine call_meets F.slot_list_pop ⟨_, e, rfl⟩ F.entry_list_pop (F.args_list_pop_1 _) (MeetsSeq.list_pop_last l its.toArray n u hy' (by rw [List.size_toArray]; omega)) ⟨e, ?_⟩
  refine ⟨y, _, I.lset (its' := its.dropLast) hH e ?_ r.dropLast ?_, ru, q⟩
  · show its.toArray.eraseIdxIfInBounds (its.toArray.size - 1) = its.dropLast.toArray
    rw [List.size_toArray, List.eraseIdxIfInBounds_toArray, erase_last]
  · rw [List.length_dropLast]
    omega

def rPopAt : V → List V → Hp → VK → Prop := fun x vs H Q => ∃ l xs i k y, x = .ref l ∧ vs = [.int i] ∧ H l = some (.lst xs) ∧ -(2 ^ 63) ≤ i ∧ i < 2 ^ 63 ∧ seqIndex? i xs.length = some k ∧ xs[k]? = some y ∧ Q y (upd H l (.lst (xs.eraseIdx k)))
theorem mt_popAt : MtM X "list.pop" rPopAt := by
  intro pins s σ H x vs v us Q I rx rv h
  obtain ⟨l, xs, i, k, y, rfl, rfl, hH, h1, h2, hk, hy, q⟩ := h
  cases rx
  obtain ⟨u, rfl, ru⟩ := rv.one
  obtain ⟨t, rfl⟩ := ru
  obtain ⟨z, its, n, r, hl, e⟩ := I.lstM hH
  obtain ⟨w, hw, rw'⟩ := r.get hy
  refine call_meets F.slot_list_pop ⟨_, e, rfl⟩ F.entry_list_pop (F.args_list_pop_2 _ _)
    (MeetsSeq.list_pop_at l its.toArray n i t k w (fitsIndex_both h1 h2) (by rw [List.size_toArray, ← hl]; exact hk) (by rw [← Array.getElem?_toList]; exact hw) (by rw [List.size_toArray]; omega)) ⟨e, ?_⟩
  refine ⟨y, _, I.lset (its' := its.eraseIdx k) hH e ?_ (r.eraseIdx k) ?_, rw', q⟩
  · show its.toArray.eraseIdxIfInBounds k = (its.eraseIdx k).toArray
    rw [List.eraseIdxIfInBounds_toArray]
  · have := len_erase xs k
    omega

def rReverse : V → List V → Hp → VK → Prop := fun x vs H Q => ∃ l xs, x = .ref l ∧ vs = [] ∧ H l = some (.lst xs) ∧ Q .non (upd H l (.lst xs.reverse))
theorem mt_reverse : MtM X "list.reverse" rReverse := by
  intro pins s σ H x vs v us Q I rx rv h
  obtain ⟨l, xs, rfl, rfl, hH, q⟩ := h
  cases rx
  have hus := rv.zero
  subst hus
  obtain ⟨z, its, n, r, hl, e⟩ := I.lstM hH
  refine call_meets F.slot_list_reverse ⟨_, e, rfl⟩ F.entry_list_reverse (F.args_list_reverse_1 _) (AutoSeq1.list_reverse_list_0 l its.toArray n (by rw [List.size_toArray]; omega)) ⟨e, ?_⟩
  refine ⟨.non, _, I.lset (its' := its.reverse) hH e (by simp) r.reverse ?_, rfl, q⟩
  rw [List.length_reverse]
  omega

def rClear : V → List V → Hp → VK → Prop := fun x vs H Q => ∃ l xs, x = .ref l ∧ vs = [] ∧ H l = some (.lst xs) ∧ Q .non (upd H l (.lst []))
theorem mt_clear : MtM X "list.clear" rClear := by
  intro pins s σ H x vs v us Q I rx rv h
  obtain ⟨l, xs, rfl, rfl, hH, q⟩ := h
  cases rx
  have hus := rv.zero
  subst hus
  obtain ⟨z, its, n, r, hl, e⟩ := I.lstM hH
  refine call_meets F.slot_list_clear ⟨_, e, rfl⟩ F.entry_list_clear (F.args_list_clear_1 _) (AutoSeq1.list_clear_list_0 l its.toArray n (by rw [List.size_toArray]; omega)) ⟨e, ?_⟩
  exact ⟨.non, _, I.lset (its' := []) (ys := []) hH e rfl .nil (Nat.zero_le _), rfl, q⟩

/-! ### list + list, list += list, list * int -/
def rCat : R2 := fun x y H Q => ∃ l b xs zs, x = .ref l ∧ y = .ref b ∧ H l = some (.lst xs) ∧ H b = some (.lst zs) ∧ xs.length + zs.length ≤ sizeLine ∧ ∀ p, H p = none → Q (.ref p) (upd H p (.lst (xs ++ zs)))
theorem op_cat : OpR X (binaryOp .Add) rCat := by
  intro pins s σ H x y v u Q I rx ry h
  obtain ⟨l, b, xs, zs, rfl, rfl, hH, hB, hz, q⟩ := h
  cases rx
  cases ry
  obtain ⟨z, its, n, r, hl, e⟩ := I.lstM hH
  obtain ⟨z2, its2, n2, r2, hl2, e2⟩ := I.lstM hB
  refine PySem.P.add_list e e2 ?_ (by rw [List.size_toArray, List.size_toArray]; omega)
  have ea : its.toArray ++ its2.toArray = (its ++ its2).toArray := by simp
  rw [ea]
  exact ⟨.ref _, _, I.lnew (t' := s.toks) (r.append r2) (by rw [List.length_append]; omega), rfl, q _ I.fresh⟩
/-- a list times an int (a negative one is nothing) -/
def rRep : R2 := fun x y H Q => ∃ l k xs, x = .ref l ∧ y = .int k ∧ H l = some (.lst xs) ∧ -(2 ^ 63) ≤ k ∧ k < 2 ^ 63 ∧ xs.length * k.toNat ≤ sizeLine ∧
  ∀ p, H p = none → Q (.ref p) (upd H p (.lst (List.replicate k.toNat xs).flatten))
theorem len_rep {α : Type} (xs : List α) (k : Nat) : (List.replicate k xs).flatten.length = k * xs.length := by
  induction k with
  | zero => simp
  | succ k ih => rw [List.replicate_succ, List.flatten_cons, List.length_append, ih, Nat.succ_mul, Nat.add_comm]
theorem op_rep : OpR X (binaryOp .Mult) rRep := by
  intro pins s σ H x y v u Q I rx ry h
  obtain ⟨l, k, xs, rfl, rfl, hH, h1, h2, hz, q⟩ := h
  cases rx
  obtain ⟨t, rfl⟩ := ry
  obtain ⟨z, its, n, r, hl, e⟩ := I.lstM hH
  have hlen : its.toArray.size * k.toNat ≤ sizeLine := by rw [List.size_toArray, ← hl]; exact hz
  have hcap : ¬ its.toArray.size * k.toNat > (2 ^ 63 - 1) / 8 := by
    have : (sizeLine : Nat) ≤ (2 ^ 63 - 1) / 8 := by decide
    omega
  have hfit : ¬ (!Builtin.List.listFitsIndex k) = true := by
    rw [fitsIndex_both h1 h2]
    exact Bool.false_ne_true
  have hlong : ¬ Builtin.List.listTooLong (its.toArray.size * k.toNat) = true := by
    rw [notLongL hlen]
    exact Bool.false_ne_true
  have hnew : List.foldl (fun x1 x2 => x1 ++ x2) #[] (List.replicate (if its.toArray.isEmpty = true then 0 else k.toNat) its.toArray) = (List.replicate k.toNat its).flatten.toArray := by
    have f0 : ∀ m : Nat, List.foldl (fun x1 x2 => x1 ++ x2) #[] (List.replicate m its.toArray) = (List.replicate m its).flatten.toArray := fun m => by
      have := foldl_rep its m []
      rw [List.nil_append] at this
      exact this
    rw [f0]
    cases its with
    | nil => simp
    | cons a r' => rw [if_neg (by simp)]
  refine wpAny_binaryOp_repeat_ref (T := "list") (U := "int") (by decide) ⟨_, e, rfl⟩ (fun s' => typeIs_int s' k t) noFill_list_mul F.fills_int_mul F.slot_int_rmul repeat_list F.slot_int_index.lookup
    (call_meets F.slot_int_rmul (typeIs_int s k t) F.entry_int_rmul (F.args_int_rmul_2 _ _) (int___rmul___int_list k t l its.toArray n)
      ⟨e, rfl, ⟨_, e, rfl⟩, call_meets F.slot_list_mul ⟨_, e, rfl⟩ F.entry_list_mul (F.args_list_mul_2 _ _) (AutoListH.list___mul___list_int_3 l its.toArray n k t hfit hcap hlong) ⟨e, ?_⟩⟩)
  rw [hnew]
  exact ⟨.ref _, _, I.lnew (t' := s.toks) (r.rep k.toNat) (by rw [len_rep, Nat.mul_comm]; exact hz), rfl, q _ I.fresh⟩

/-! ### del xs[i] -/
theorem del_list {pins : List (Addr × Obj)} {s : Shared} {σ : St} {H : Hp} {l : Addr} {xs : List V} {i : Int} {t : Tok} {k : Nat} {Q : Unit → Shared → Prop} (I : Inv X pins σ H s) (hH : H l = some (.lst xs))
    (h1 : -(2 ^ 63) ≤ i) (h2 : i < 2 ^ 63) (hk : seqIndex? i xs.length = some k) (h : ∀ s', Inv X pins σ (upd H l (.lst (xs.eraseIdx k))) s' → Q () s') :
    wpAny (model X.prog X.w) X.A (delItem (.ref l) (.int i t)) Q X.xe s := by
  obtain ⟨z, its, n, r, hl, e⟩ := I.lstM hH
  refine PySem.P.delItem_list (k := k) e (fitsIndex_both h1 h2) (by rw [List.size_toArray, ← hl]; exact hk) (h _ ?_) (by rw [List.size_toArray]; omega)
  refine I.lset (its' := its.eraseIdx k) (t' := s.toks) hH e ?_ (r.eraseIdx k) ?_
  · show its.toArray.eraseIdxIfInBounds k = (its.eraseIdx k).toArray
    rw [List.eraseIdxIfInBounds_toArray]
  · have := len_erase xs k
    omega
end

/-! ### xs[a:b] = ys -/
section
variable {prog : Program} {w : World} {A : Around} {E : Value → Shared → Prop} {s : Shared}
theorem splice_eq (its its2 : List Value) (a c : Nat) : its.toArray.extract 0 a ++ its2.toArray ++ its.toArray.extract c its.toArray.size = (its.take a ++ its2 ++ its.drop c).toArray := by
  apply Array.toList_inj.mp
  first
    | (simp
       exact List.take_of_length_le (by simp))
    | simp [List.take_of_length_le]
    | simp
theorem bounds_run {a c n : Nat} (hac : a ≤ c) (hc : c ≤ n) : sliceBounds (some (a : Int)) (some (c : Int)) none n = ((a : Int), (c : Int), 1) := by
  simp only [sliceBounds, Option.getD_none]
  have h1 : ¬ ((a : Int) < 0) := by omega
  have h2 : ¬ ((c : Int) < 0) := by omega
  simp only [h1, h2, if_false, show (1 : Int) > 0 by decide, if_true]
  congr 1
  · omega
  · congr 1; omega
set_option maxRecDepth 100000 in
/-- list.__setitem__ with a slice of step one and another list -/
theorem setItem_slice {l b sl : Addr} {items new : Array Value} {n n2 : Nat} {vl vu : Value} {a c : Nat} {Q : Unit → Shared → Prop}
    (e : s.heap.get? l = some { cls := .type "list", data := .seq items n }) (e2 : s.heap.get? b = some { cls := .type "list", data := .seq new n2 }) (hne : l ≠ b)
    (hs : s.heap.IsSliceOf sl vl vu .none) (pl : IsPart vl (some (a : Int))) (pu : IsPart vu (some (c : Int))) (hac : a ≤ c) (hc : c ≤ items.size)
    (hsz : items.size + new.size ≤ sizeLine) (h : Q () { s with heap := s.heap.update l (Obj.mapSeq fun xs => xs.extract 0 a ++ new ++ xs.extract c xs.size) }) :
    wpAny (model prog w) A (setItem (.ref l) (.ref sl) (.ref b)) Q E s := by
  have hl : s.heap.IsList l items := PySem.IsL.isList e
  have hb : s.heap.IsList b new := PySem.IsL.isList e2
  obtain ⟨os, hos, hcs, hds⟩ := id hs
  have hTs : s.TypeIs (.ref sl) "slice" := ⟨os, hos, hcs⟩
  have hstep : ¬ ((rawPart none == rawInt 0) = true) := Bool.false_ne_true
  have hsame : Builtin.List.listSameRef (.ref l) (.ref b) = false := by
    unfold Builtin.List.listSameRef
    exact beq_eq_false_iff_ne.mpr hne
  have hmax : (max (a : Int) (c : Int)).toNat = c := by omega
  have hz' : ((fun xs : Array Value => xs.extract 0 a ++ new ++ xs.extract c xs.size) items).size ≤ sizeLine + 1 := by
    simp only [Array.size_append, Array.size_extract]
    omega
  unfold setItem
  try with_reducible refine wpAny_holding ?_
  first | refine wpAny_bind (wpAny_pure ?_) | skip
  refine wpAny_bind (wpAny_sequenceKey hl.typeIs (by decide) ?_)
  refine wpAny_bind (wpAny_callSpecial?_slot (name := Str.ofString "__setitem__") hl.typeIs slot_list_setitem
    (wpAny_call_entry slot_list_setitem hl.typeIs entry_list_setitem ?_ (args_list_setitem _ _ _)))
  show wpAny _ _ (Builtin.List.listSubscript? (.ref sl) >>= _) _ _ s
  refine wpAny_bind ?_
  unfold Builtin.List.listSubscript?
  refine wpAny_bind (wpAny_specialOf hTs slice_no_index ?_)
  simp only [Option.isNone_none, if_true]
  refine wpAny_pure ?_
  show wpAny _ _ (typeOf (.ref sl) >>= _) _ _ s
  refine wpAny_bind (wpAny_typeOf hTs ?_)
  first
    | rw [if_neg (by decide)]
    | refine PySem.W.KFB.if_not (by decide) ?_
  rw [listSliceParts_eq]
  refine wpAny_bind (wpAny_bind (wpAny_field hos hds (x := .none) rfl (wpAny_bind (wpAny_listPart .none ?_))))
  rw [if_neg hstep]
  refine wpAny_bind (wpAny_field hos hds (x := vl) rfl (wpAny_bind (wpAny_listPart pl ?_)))
  refine wpAny_bind (wpAny_field hos hds (x := vu) rfl (wpAny_bind (wpAny_listPart pu (wpAny_pure ?_))))
  first
    | simp only [hsame, Bool.false_eq_true, if_false]
    | refine PySem.W.KFB.if_not hsame ?_
    | (dsimp only
       rw [if_neg (by rw [hsame]; exact Bool.false_ne_true)])
  refine wpAny_bind (m := Builtin.List.listAllItems (.ref b) "must assign iterable to extended slice") ?_
  unfold Builtin.List.listAllItems
  refine wpAny_bind (wpAny_typeOf hb.typeIs ?_)
  first
    | refine PySem.W.KFB.if_so (by decide) ?_
    | rw [if_pos (by decide)]
    | simp only [beq_self_eq_true, Bool.true_or, if_true]
  unfold Builtin.List.listItems
  refine wpAny_bind (wpAny_seqItems e2 rfl (wpAny_pure ?_))
  refine wpAny_bind (wpAny_bind (wpAny_seqItems e rfl (wpAny_pure ?_)))
  refine wpAny_bind (wpAny_of_eq ((sliceIndices_raw (some (a : Int)) (some (c : Int)) none items.size (by simp)).trans (congrArg (pure : Int × Int × Int → Sem (Int × Int × Int)) (bounds_run hac hc))) ?_)
  show wpAny _ _ (if ((1 : Int) == 1) = true then _ else _) _ _ s
  rw [if_pos (by decide)]
  refine wpAny_bind (wpAny_rule ?_)
  first
    | simp only [notLongL hsz, Bool.false_eq_true, if_false]
    | refine PySem.W.KFB.if_not (notLongL hsz) ?_
  first | refine wpAny_bind (wpAny_pure ?_) | skip
  show wpAny _ _ (updateSeq l (fun xs => xs.extract 0 ((a : Int)).toNat ++ new ++ xs.extract (max (a : Int) (c : Int)).toNat xs.size) >>= _) _ _ s
  rw [hmax, Int.toNat_natCast]
  refine wpAny_bind (wpAny_updateSeq (hz := Nat.le_trans (Nat.le_add_right _ _) hsz) (_hz' := hz') e rfl ?_)
  refine wpAny_bind (wpAny_letGo ?_)
  first
    | exact wpAny_bind (wpAny_pure (wpAny_pure ⟨.none, rfl, wpAny_pure h⟩))
    | exact wpAny_pure ⟨.none, rfl, wpAny_pure h⟩
end

section
variable {X : Cx}
/-- xs[a:c] = ys of another list, at the value level: sl is the slice object that was just made -/
theorem set_slice {pins : List (Addr × Obj)} {s : Shared} {σ : St} {H : Hp} {l b sl : Addr} {xs ys : List V} {a c : Int} {vl vu : Value} {Q : Unit → Shared → Prop} (I : Inv X pins σ H s)
    (hH : H l = some (.lst xs)) (hB : H b = some (.lst ys)) (hne : l ≠ b) (hs : s.heap.IsSliceOf sl vl vu .none) (ra : RelV (.int a) vl) (rc : RelV (.int c) vu) (h0 : 0 ≤ a) (hac : a ≤ c) (hc : c ≤ xs.length)
    (hz : xs.length + ys.length ≤ sizeLine) (h : ∀ s', Inv X pins σ (upd H l (.lst (xs.take a.toNat ++ ys ++ xs.drop c.toNat))) s' → Q () s') :
    wpAny (model X.prog X.w) X.A (setItem (.ref l) (.ref sl) (.ref b)) Q X.xe s := by
  obtain ⟨ta, rfl⟩ := ra
  obtain ⟨tc, rfl⟩ := rc
  obtain ⟨z, its, n, r, hl, e⟩ := I.lstM hH
  obtain ⟨z2, its2, n2, r2, hl2, e2⟩ := I.lstM hB
  obtain ⟨a', rfl⟩ := Int.eq_ofNat_of_zero_le h0
  obtain ⟨c', rfl⟩ := Int.eq_ofNat_of_zero_le (Int.le_trans h0 hac)
  simp only [Int.toNat_natCast] at h
  refine setItem_slice (a := a') (c := c') e e2 hne hs (.int _ _) (.int _ _) (by omega) (by rw [List.size_toArray]; omega) (by rw [List.size_toArray, List.size_toArray]; omega) (h _ ?_)
  refine I.lset (its' := its.take a' ++ its2 ++ its.drop c') (t' := s.toks) hH e ?_ (Vals.append (Vals.append (r.take _) r2) (r.drop _)) ?_
  · exact splice_eq its its2 a' c'
  · rw [List.length_append, List.length_append, List.length_take, List.length_drop]
    omega
end
end L2

namespace Att
open PySem PySem.W PySem.Calls PyProof.Rows

/-! ### the script -/
theorem ints_of_wellAll {P : Params} {h : Heap} : ∀ (ns : List Int) (vs : List Value), WellAll P h vs (ns.map WData.int) → IntsAre vs ns := by
  intro ns
  induction ns with
  | nil =>
    intro vs w
    rw [List.map_nil] at w
    cases w
    exact .nil
  | cons n ns ih =>
    intro vs w
    rw [List.map_cons] at w
    cases w with
    | cons a b =>
      cases a
      exact .cons _ _ (ih _ b)

theorem script_of {l : OpenLaw} {n : Nat} (hn : l.most = some n) {P : Params} {h : Heap} {args : List WData} {vals : List Value}
    (hpre : l.row.toRowW.claim.pre args = true) (hwl : WellAll P h vals args) :
    ∃ a vs ns, vals = [Value.ref a] ∧ args = [WData.list (ns.map WData.int)] ∧ h.get? a = some { cls := .type "list", data := .seq vs.toArray } ∧ IntsAre vs ns ∧ ns.length ≤ n := by
  have hsh : WShape.hasAll [] args [.list .int] = true := (pre_splitW hpre).1
  have hc : l.pre.holds [] { args := args } = true := (pre_splitW hpre).2
  obtain ⟨d, r, rfl, h1, h2⟩ := hasAllW_cons hsh
  obtain rfl := hasAllW_nil h2
  obtain ⟨xs, rfl, h3⟩ := hasW_list h1
  obtain ⟨ns, rfl⟩ := items_int h3
  have hlen : ns.length ≤ n := by
    unfold OpenLaw.pre at hc
    have h4 : (WTm.not (.lt (.lit (.int (n : Int))) (.len (.arg 0)))).holds [] { args := [.list (ns.map .int)] } = true := by
      have h4 := (holds_andW hc).1
      rw [hn] at h4
      exact h4
    have h5 := condW_of h4 (w_not (w_lt w_lit (w_len_list (w_arg rfl))))
    rw [List.length_map] at h5
    refine Nat.le_of_not_lt fun q => ?_
    have q' : (n : Int) < ((ns.length : Nat) : Int) := by omega
    first
      | (rw [decide_eq_true q'] at h5; exact absurd h5 (by decide))
      | (simp at h5; omega)
  cases hwl with
  | cons w1 w2 =>
    cases w2
    cases w1 with
    | list ho hall => exact ⟨_, _, ns, rfl, rfl, ho, ints_of_wellAll ns _ hall, hlen⟩

theorem post_true (l : OpenLaw) (args : List WData) : l.row.toRowW.claim.post args (.bool true) args = true :=
  postW_of (r := l.row.toRowW) (X := (true == true))
    (show WShape.has [] (.bool true) .bool = true by first | rfl | decide | simp [WShape.has, WShape.arms, WShape.armsAll])
    (show (WTm.eq .res (.lit (.bool true))).value [] { args := args, res := some (.bool true), after := args } = some (.bool (true == true)) from w_eq_bool (w_res rfl) w_lit) rfl

/-! ### the attachment: holds_open's last premise (the goal 'hc' behind k_head) from a wpAny of the law's body -/
theorem attach {l : OpenLaw} {n : Nat} {q : Program} {loose : List Str} {XP : (Str → Option Value) → Heap → Prop} {YP : World → Heap → Prop} {d : DefRec} {x : Str}
    (hn : l.most = some n) (hdf : d.params.defaults = [])
    (hbind : ∀ pm cd doc v : Value, bindArgs (docDef d.name d.params d.body d.scope pm cd doc) ⟨[v], []⟩ = pure [(x, v)])
    (hx : d.scope.names.lookup x = some .local ∨ d.scope.names.lookup x = some .cell)
    (hk : d.scope.kind = .function) (hco : d.scope.isCoroutine = false) (hgen : d.scope.isGenerator = false)
    (body : ∀ (w : World) (s₀ s₁ s : Shared) (mg mb : Str → Option Value) (fa : Addr) (o : Obj) (pm cd doc : Value) (a : Addr) (vs : List Value) (ns : List Int),
      Ground q loose [] XP w s₀ mg mb s₁.heap → YP w s₁.heap →
      s₁.heap.get? fa = some o → o.data = .func (docDef d.name d.params d.body d.scope pm cd doc) → s₁.heap.CodeRec cd d.name → mg d.name = some (.ref fa) →
      s₁.heap.get? a = some { cls := .type "list", data := .seq vs.toArray } → IntsAre vs ns → ns.length ≤ n →
      s.gens = #[] → s.os = s₁.os →
      Fr s₁.heap s₁.heap.objs.size s.heap (bindL (envOfC d.name d.scope s₁.heap.objs.size fa cd).kindOf [(x, .ref a)] fun _ => none) →
      Cl s₁.heap.objs.size (cellsFrom (s₁.heap.objs.size + 1) d.scope.names []) s.heap (bindC (envOfC d.name d.scope s₁.heap.objs.size fa cd).kindOf [(x, .ref a)] fun _ => none) →
      wpAny (model l.prog w) (callerA.deeper (envOfC d.name d.scope s₁.heap.objs.size fa cd)) (execs d.body (envOfC d.name d.scope s₁.heap.objs.size fa cd))
        (fun f s' => f = .ret (.bool true) ∧ OldK s₁.heap s'.heap ∧ s'.os = s₁.os ∧ AllBare s'.gens) (fun _ _ => False) s) :
    WalkO q loose XP YP l.row.toRowW d [] (fun f vs => PySem.call f vs) := by
  intro w s₀ s₁ mg mb G Y fa o pm cd doc dV kV ho hd hcd hD hmg hg args vals as hpre hlay hrd hwl hlo
  obtain rfl : dV = .none := Dflts.none hD hdf
  obtain rfl : kV = .none := Dflts.noKw hD
  obtain ⟨a, vs, ns, rfl, rfl, hobj, hints, hlen⟩ := script_of hn hpre hwl
  refine enter_call ?_
  refine call_cells_ret (o := o) (by rw [depth_caller]; decide) ho (fd_plain hd) G.T.nolimit hcd (hbind pm cd doc (.ref a)) (fun y hy => ?_) (fun h₁ tk F X => ?_) hco hgen hk
  · obtain rfl : y = (x, Value.ref a) := List.mem_singleton.mp hy
    rcases hx with e | e
    · exact .inl e
    · exact .inr ⟨e, cellsFrom_some _ _ _ (.inl e)⟩
  · refine wpAny_mono (body w s₀ s₁ { s₁ with heap := h₁, toks := tk } mg mb fa o pm cd doc a vs ns G Y ho (fd_plain hd) hcd hmg hobj hints hlen hg rfl F X) (fun f s' hq => ?_) (fun _ _ hq => hq)
    obtain ⟨rfl, h2, h3, h4⟩ := hq
    exact ⟨.inl ⟨.bool true, .bool true, [], rfl, fun _ => rfl, .bool true, post_true l _, fun _ => ⟨List.Pairwise.nil, fun _ hm => (nomatch hm)⟩⟩, h2, h3, h4⟩

/-- the same from a codeAny of the CALL (for a layer whose function contracts speak of calls) -/
theorem attach_call {l : OpenLaw} {n : Nat} {q : Program} {loose : List Str} {XP : (Str → Option Value) → Heap → Prop} {YP : World → Heap → Prop} {d : DefRec}
    (hn : l.most = some n) (hdf : d.params.defaults = [])
    (call : ∀ (w : World) (s₀ s₁ : Shared) (mg mb : Str → Option Value) (fa : Addr) (o : Obj) (pm cd doc : Value) (a : Addr) (vs : List Value) (ns : List Int),
      Ground q loose [] XP w s₀ mg mb s₁.heap → YP w s₁.heap →
      s₁.heap.get? fa = some o → o.data = .func (docDef d.name d.params d.body d.scope pm cd doc) → s₁.heap.CodeRec cd d.name → mg d.name = some (.ref fa) →
      s₁.heap.get? a = some { cls := .type "list", data := .seq vs.toArray } → IntsAre vs ns → ns.length ≤ n → s₁.gens = #[] →
      codeAny (model l.prog w) callerA (.call (.ref fa) ⟨[.ref a], []⟩) (fun r s' => r = .ok (.ret (.bool true)) ∧ OldK s₁.heap s'.heap ∧ s'.os = s₁.os ∧ AllBare s'.gens) s₁) :
    WalkO q loose XP YP l.row.toRowW d [] (fun f vs => PySem.call f vs) := by
  intro w s₀ s₁ mg mb G Y fa o pm cd doc dV kV ho hd hcd hD hmg hg args vals as hpre hlay hrd hwl hlo
  obtain rfl : dV = .none := Dflts.none hD hdf
  obtain rfl : kV = .none := Dflts.noKw hD
  obtain ⟨a, vs, ns, rfl, rfl, hobj, hints, hlen⟩ := script_of hn hpre hwl
  refine enter_call (codeAny_mono (call w s₀ s₁ mg mb fa o pm cd doc a vs ns G Y ho (fd_plain hd) hcd hmg hobj hints hlen hg) fun r s' hq => ?_)
  obtain ⟨rfl, h2, h3, h4⟩ := hq
  exact ⟨.inl ⟨.bool true, .bool true, [], rfl, fun _ => rfl, .bool true, post_true l _, fun _ => ⟨List.Pairwise.nil, fun _ hm => (nomatch hm)⟩⟩, h2, h3, h4⟩

/-- the same where the top left finished generators (o_head chose holds_openN): nothing may have changed at all and no generator may be left -/
theorem attachN {l : OpenLaw} {n : Nat} {q : Program} {loose : List Str} {XP : (Str → Option Value) → Heap → Prop} {YP : World → Heap → Prop} {d : DefRec} {x : Str}
    (hn : l.most = some n) (hdf : d.params.defaults = [])
    (hbind : ∀ pm cd doc v : Value, bindArgs (docDef d.name d.params d.body d.scope pm cd doc) ⟨[v], []⟩ = pure [(x, v)])
    (hx : d.scope.names.lookup x = some .local ∨ d.scope.names.lookup x = some .cell)
    (hk : d.scope.kind = .function) (hco : d.scope.isCoroutine = false) (hgen : d.scope.isGenerator = false)
    (body : ∀ (w : World) (s₀ s₁ s : Shared) (mg mb : Str → Option Value) (fa : Addr) (o : Obj) (pm cd doc : Value) (a : Addr) (vs : List Value) (ns : List Int),
      Ground q loose [] XP w s₀ mg mb s₁.heap → YP w s₁.heap →
      s₁.heap.get? fa = some o → o.data = .func (docDef d.name d.params d.body d.scope pm cd doc) → s₁.heap.CodeRec cd d.name → mg d.name = some (.ref fa) →
      s₁.heap.get? a = some { cls := .type "list", data := .seq vs.toArray } → IntsAre vs ns → ns.length ≤ n →
      s.gens = #[] → s.os = s₁.os →
      Fr s₁.heap s₁.heap.objs.size s.heap (bindL (envOfC d.name d.scope s₁.heap.objs.size fa cd).kindOf [(x, .ref a)] fun _ => none) →
      Cl s₁.heap.objs.size (cellsFrom (s₁.heap.objs.size + 1) d.scope.names []) s.heap (bindC (envOfC d.name d.scope s₁.heap.objs.size fa cd).kindOf [(x, .ref a)] fun _ => none) →
      wpAny (model l.prog w) (callerA.deeper (envOfC d.name d.scope s₁.heap.objs.size fa cd)) (execs d.body (envOfC d.name d.scope s₁.heap.objs.size fa cd))
        (fun f s' => f = .ret (.bool true) ∧ (∀ b o, s₁.heap.get? b = some o → s'.heap.get? b = some o) ∧ s'.os = s₁.os ∧ s'.gens = #[]) (fun _ _ => False) s) :
    WalkN q loose XP YP l.row.toRowW d [] (fun f vs => PySem.call f vs) := by
  intro w s₀ s₁ mg mb G Y fa o pm cd doc dV kV ho hd hcd hD hmg hg args vals as hpre hlay hrd hwl hlo
  obtain rfl : dV = .none := Dflts.none hD hdf
  obtain rfl : kV = .none := Dflts.noKw hD
  obtain ⟨a, vs, ns, rfl, rfl, hobj, hints, hlen⟩ := script_of hn hpre hwl
  refine enter_callW ?_
  refine call_cells_ret (o := o) (by rw [depth_caller]; decide) ho (fd_plain hd) G.T.nolimit hcd (hbind pm cd doc (.ref a)) (fun y hy => ?_) (fun h₁ tk F X => ?_) hco hgen hk
  · obtain rfl : y = (x, Value.ref a) := List.mem_singleton.mp hy
    rcases hx with e | e
    · exact .inl e
    · exact .inr ⟨e, cellsFrom_some _ _ _ (.inl e)⟩
  · refine wpAny_mono (body w s₀ s₁ { s₁ with heap := h₁, toks := tk } mg mb fa o pm cd doc a vs ns G Y ho (fd_plain hd) hcd hmg hobj hints hlen hg rfl F X) (fun f s' hq => ?_) (fun _ _ hq => hq)
    obtain ⟨rfl, h2, h3, h4⟩ := hq
    exact ⟨.inl ⟨.bool true, .bool true, [], rfl, fun _ => rfl, .bool true, post_true l _, fun _ => ⟨List.Pairwise.nil, fun _ hm => (nomatch hm)⟩⟩, h2, h3, h4⟩

/-! ### rules over ANY heap (no ledger) from facts about the written part K: the library's own take a ledger (News) for what they write -/
section
variable {prog : Program} {w : World} {A : Around} {E : Value → Shared → Prop} {s : Shared} {K : Frag}

/-- a def of the module, or a method (qual 'C.m'), entered: the frame is the next address; cells behind it -/
theorem call_fn {R : Result → Shared → Prop} {name qual : Str} {params : Arguments} {body : List Stmt} {scope : Scope} {dV kV doc pm cdv ct oc : Value} {an od : Option Addr} {osl : Array (Option Value)} {f : Addr} {args : Args} {binds : List (Str × Value)}
    (X : K.In s.heap) (hlim : s.heap.NoLimit) (ho : K.lookup f = some ⟨oc, od, .func (fnOf name qual params body scope dV kV doc pm an cdv ct), osl⟩) (hcd : codeIn K cdv qual = true) (hroom : A.depth < recursionLimit)
    (hbind : BindsTo s (fnOf name qual params body scope dV kV doc pm an cdv ct) args binds)
    (hkind : (binds.all fun y => scope.names.lookup y.1 == some .local || scope.names.lookup y.1 == some .cell) = true)
    (h : ∀ s₁, InCallC s s.heap.objs.size (bindL (envOfC qual scope s.heap.objs.size f cdv).kindOf binds fun _ => none) (cellsFrom (s.heap.objs.size + 1) scope.names [])
        (bindC (envOfC qual scope s.heap.objs.size f cdv).kindOf binds fun _ => none) s₁ →
      wpAny (model prog w) (A.deeper (envOfC qual scope s.heap.objs.size f cdv)) (execs body (envOfC qual scope s.heap.objs.size f cdv))
        (fun fl s' => R (.ok (.ret (match fl with | .ret v => v | _ => .none))) s')
        (fun e s' => wpAny (model prog w) (A.deeper (envOfC qual scope s.heap.objs.size f cdv)) (leaving (envOfC qual scope s.heap.objs.size f cdv) e) (fun _ s'' => R (.error e) s'') (fun e' s'' => R (.error e') s'') s') s₁)
    (hco : scope.isCoroutine = false) (hgen : scope.isGenerator = false) (hk : scope.kind = .function) : codeAny (model prog w) A (.call (.ref f) args) R s := by
  refine codeAny_call_function hroom (X _ _ ho) rfl hco hgen rfl (codeRec_of X hcd) (hbind _ _ _ _ ?_)
  refine wpAny_newFunctionEnv_cells hk (kindsX hkind _) fun env he s₁ x => ?_
  subst he
  exact ⟨hlim.keeps x.toInCall.keep, codeAny_func (h s₁ x)⟩

/-- C(..): dict at size, instance at size + 1, then __init__ -/
theorem make_obj {R : Result → Shared → Prop} {C fI : Addr} {rest : List Value} {kw : List (Str × Value)}
    (X : K.In s.heap) (hm : makesIn K C = true) (hi : findIn K (.ref C) "__init__" = some (some (.ref fI))) (hf : isFn K (.ref fI) = true)
    (h : codeAny (model prog w) (A.under (.builtin "type.__call__" ⟨.ref C :: rest, kw⟩)) (.call (.ref fI) ⟨.ref (s.heap.objs.size + 1) :: rest, kw⟩) (InitBack (s.heap.objs.size + 1) R)
      { s with heap := (s.heap.push emptyDict).push (instObj C s.heap.objs.size) }) : codeAny (model prog w) A (.call (.ref C) ⟨rest, kw⟩) R s := by
  obtain ⟨hh, g, d, t, os⟩ := s
  exact make_core (makes_of X hm) (looks_findIn X hi) (fun self => bind_fn X self (beq_iff_eq.mp hf)) (.inl rfl) h

/-- x.name where the instance's dict holds the name and the class does not -/
theorem get_field {x C : Addr} {ox : Obj} {es : List DictEntry} {n : Nat} {name : Str} {expr : Bool} {v : Value} {Q : Value → Shared → Prop}
    (X : K.In s.heap) (I : PySem.W.InstAt s.heap x ox C (some (dictOf es n))) (hg : plainGet K C name = true) (hh : hasDictIn K C = true) (ha : findIn K (.ref C) name = some none)
    (hl : getL name es = some (some v)) (hv : handedIn v = true) (h : Q v { s with toks := s.toks + 1 }) : wpAny (model prog w) A (getAttr (.ref x) name expr) Q E s :=
  get_value X I (plainGet_of hg).1 (findObj_own hh ha rfl hl) hv h

/-- x.m(..): the method found in the class -/
theorem get_method {x C f : Addr} {ox : Obj} {es : List DictEntry} {n : Nat} {name : Str} {pl : Sem Bool} {Q : Value × List Value → Shared → Prop}
    (X : K.In s.heap) (I : PySem.W.InstAt s.heap x ox C (some (dictOf es n))) (hg : plainGet K C name = true) (hf : findIn K (.ref C) name = some (some (.ref f))) (ht : isFn K (.ref f) = true)
    (hl : getL name es = some none) (h : Q (.ref f, [.ref x]) s) : wpAny (model prog w) A (getMethod (.ref x) name pl) Q E s :=
  method_fn X I (plainGet_of hg).1 (plainGet_of hg).2 hf (beq_iff_eq.mp ht) (by show (lookIn name (dictOf es n)).map _ = _; rw [lookIn_dict, hl]; rfl) h

/-! the whole heap as the ledger: makes every rule that writes through a ledger a rule over any heap -/
def noObjs (h : Heap) : Heap := { h with objs := #[] }
theorem noObjs_get (h : Heap) (b : Addr) : (noObjs h).get? b = none := by
  cases e : (noObjs h).get? b with
  | none => rfl
  | some o => exact absurd (Heap.lt_size e) (Nat.not_lt_zero _)
def ledger (h : Heap) (L d : Addr) : List (Addr × Obj) := (List.range h.objs.size).filterMap fun a => if a = L ∨ a = d then none else (h.get? a).map fun o => (a, o)
theorem mem_ledger {h : Heap} {L d a : Addr} {o : Obj} : (a, o) ∈ ledger h L d ↔ a ≠ L ∧ a ≠ d ∧ h.get? a = some o := by
  unfold ledger
  rw [List.mem_filterMap]
  constructor
  · rintro ⟨b, _, e⟩
    split at e
    · cases e
    · rename_i hb
      obtain ⟨o', ho, e'⟩ := Option.map_eq_some_iff.mp e
      cases e'
      exact ⟨fun q => hb (.inl q), fun q => hb (.inr q), ho⟩
  · rintro ⟨n1, n2, ho⟩
    refine ⟨a, List.mem_range.mpr (Heap.lt_size ho), ?_⟩
    rw [if_neg (show ¬ (a = L ∨ a = d) from fun q => q.elim n1 n2), ho] <;> rfl
theorem news_ledger {h : Heap} {L d : Addr} {od : Obj} (hne : d ≠ L) (ho : h.get? d = some od) : News (noObjs h) L h ([] ++ (d, od) :: ledger h L d) := by
  rintro ⟨a, o⟩ hp
  rcases List.mem_cons.mp hp with e | hp
  · cases e
    exact ⟨ho, hne, noObjs_get _ _⟩
  · obtain ⟨n1, n2, e⟩ := mem_ledger.mp hp
    exact ⟨e, n1, noObjs_get _ _⟩
theorem fr_all {h : Heap} {L : Addr} {m : Str → Option Value} (n : h.Ns L m) : Fr (noObjs h) L h m :=
  ⟨n, fun b o e => (by rw [noObjs_get] at e; cases e), Nat.zero_le _⟩
/-- Upd of the head entry (for append_K, setItem_K ..) -/
theorem upd_ledger {h : Heap} {L d : Addr} {o o' : Obj} : Upd d o o' ((d, o) :: ledger h L d) ((d, o') :: ledger h L d) :=
  .head fun ⟨_, _⟩ hp => (mem_ledger.mp hp).2.1

/-- x.name = v over any heap: L is any namespace of the heap (the frame's, say): its map stays, its object is not told; all else but the dict stays -/
theorem set_field {x C dx L : Addr} {ox : Obj} {m : Str → Option Value} {es es' : List DictEntry} {n n' : Nat} {name : Str} {v : Value} {Q : Unit → Shared → Prop}
    (X : K.In s.heap) (I : PySem.W.InstAt s.heap x ox C (some (dictOf es n))) (hd : ox.dict = some dx) (hL : s.heap.Ns L m) (hne : dx ≠ L)
    (hs : findIn K (.ref C) "__setattr__" = some (some (.builtin "object.__setattr__"))) (hp : plainOver K C = true) (ht : takerIn K C name = some none) (hh : hasDictIn K C = true) (hl : (getL name es).isSome = true)
    (e : (putL name (PyData.keyHash w.params name) (.str name (s.toks + 1)) v es, putN name es n) = (es', n')) (hz : es'.length ≤ 1000)
    (h : ∀ h' : Heap, h'.Ns L m → h'.get? dx = some (dictOf es' n') → (∀ b o, b ≠ dx → b ≠ L → s.heap.get? b = some o → h'.get? b = some o) → Q () { s with heap := h', toks := s.toks + 2 }) :
    wpAny (model prog w) A (setAttr (.ref x) name v) Q E s := by
  obtain ⟨e1, e2⟩ := Prod.mk.inj e
  have hdx : s.heap.get? dx = some (dictOf es n) := by
    have := I.dict
    rw [hd] at this
    exact this
  refine set_plain X I hs (osa_dict (s := { s with toks := s.toks + 1 }) (h₀ := noObjs s.heap) (L := L) (m := m) (od := dictOf es n) (od' := dictOf es' n') (es := es') (n := n') (pre := []) (post := ledger s.heap L dx)
    (fr_all hL) (news_ledger hne hdx) X I hd hp ht hh hl (fun _ q => nomatch q) (fun ⟨_, _⟩ q => (mem_ledger.mp q).2.1) (by rw [putName_dict, e1, e2]) rfl hz fun h' F' N' => ?_)
  exact h h' F'.ns (N'.get (List.Mem.head _)) fun b o n1 n2 ho => N'.get (List.Mem.tail _ (mem_ledger.mpr ⟨n2, n1, ho⟩))
end
end Att

namespace L2
open PySem PySem.Spec PyProof.Rows

theorem vals_ints : ∀ {vs : List Value} {ns : List Int}, IntsAre vs ns → Vals (ns.map V.int) vs
  | _, _, .nil => .nil
  | _, _, .cons n t h => .cons ⟨t, rfl⟩ (vals_ints h)

/-- nothing is tracked but the script, known to the object (or it is an object of the module) -/
def Only (H : Hp) : Prop := ∀ b, H b = none ∨ ∃ o xs, H b = some (.frz o (.lst xs))

/-- THE HEAD: the law's promise, at the heap behind the top. F, the promise of the law's def, may use that base is part of the heap (so K.In base, base.Ns mainGlobals mg stand in Mod) -/
theorem law_call {P : Program} {w : World} {K : PySem.W.Frag} {mg mb : Str → Option Value} {CX : CXT} {k : Nat} {fa a : Addr} {fd : FuncData} {x : Str} {sp : Sp} {s₁ : Shared} {vs : List Value} {ns : List Int}
    (KX : K.In s₁.heap) (hns : s₁.heap.Ns mainGlobals mg) (hb : s₁.heap.Ns builtinsNs mb) (hbb : ∀ x : Str, x ≠ "__name__" → mb x = bootBuiltins x) (hlim : s₁.heap.NoLimit) (hg : s₁.gens = #[])
    (ha : s₁.heap.get? a = some { cls := .type "list", data := .seq vs.toArray }) (hi : IntsAre vs ns) (hl : ns.length ≤ sizeLine) (hr : Room k callerA)
    (F : ∀ base : Heap, K.In base → base.Ns mainGlobals mg → FnOk P w K mg base CX k fa fd [x] sp) (hbind : ∀ (s : Shared) (u : Value), BindsTo s fd ⟨[u], []⟩ [(x, u)])
    (hsp : ∀ H : Hp, Only H → SqL K H a (ns.map V.int) → sp [.ref a] H (fun v _ => v = .bl true) fun _ _ _ => False)
    (hCX : ∀ H e s', CX [] H s₁ (fun _ _ _ => False) e s' → False) :
    codeAny (model P w) callerA (.call (.ref fa) ⟨[.ref a], []⟩) (fun r s' => r = .ok (.ret (.bool true)) ∧ OldK s₁.heap s'.heap ∧ s'.os = s₁.os ∧ AllBare s'.gens) s₁ := by
  have rv := vals_ints hi
  have lenV := hi.length
  -- from an abstract heap in which nothing but the script may be tracked
  have core : ∀ H : Hp, Only H → SqL K H a (ns.map V.int) → HOk P w H s₁.heap → (∀ b, H b ≠ none → b = a) → (H a ≠ none → K.lookup a = none) →
      codeAny (model P w) callerA (.call (.ref fa) ⟨[.ref a], []⟩) (fun r s' => r = .ok (.ret (.bool true)) ∧ OldK s₁.heap s'.heap ∧ s'.os = s₁.os ∧ AllBare s'.gens) s₁ := by
    intro H hO hS hok hA hK
    have base_of : ∀ {b : Addr} {o : Obj}, s₁.heap.get? b = some o → H b = none → (hidT s₁.heap H).get? b = some o := fun e n => hidT_get e n
    have noA : ∀ {b : Addr} {o : Obj} {es : Array DictEntry} {ep : Nat}, s₁.heap.get? b = some o → o.data = .dict es ep → H b = none := fun {b o es ep} e d => by
      cases q : H b with
      | none => rfl
      | some u =>
        have e' : b = a := hA b (by rw [q]; simp)
        subst e'
        rw [ha] at e; cases e
        have d' : Data.seq vs.toArray _ = Data.dict es ep := d
        cases d'
    have nsK : ∀ {b : Addr} {m : Str → Option Value}, s₁.heap.Ns b m → (hidT s₁.heap H).Ns b m := fun {b m} ⟨o, es, ep, e, d, r⟩ => ⟨o, es, ep, base_of e (noA e d), d, r⟩
    have hKb : K.In (hidT s₁.heap H) := fun b o e => base_of (KX b o e) (by
      cases q : H b with
      | none => rfl
      | some u =>
        have e' : b = a := hA b (by rw [q]; simp)
        subst e'
        rw [hK (by rw [q]; simp)] at e; cases e)
    have hM : Mod K mg (hidT s₁.heap H) := ⟨hKb, nsK hns, ⟨mb, nsK hb, hbb⟩, let ⟨mc, h1, h2⟩ := hlim; ⟨mc, nsK h1, h2⟩⟩
    have e0 : Env0 P w K mg (hidT s₁.heap H) callerA [] s₁ H := ⟨rfl, hM, fun b o e => of_hidT e, Nat.le_of_eq (hidT_size _ _), trivial, fun b hb => absurd (show b ∈ ([] : List Addr) from hb) (by simp), hok, .of_eq hg⟩
    refine codeAny_mono ((F _ hKb (nsK hns)).run callerA [] s₁ H ⟨[.ref a], []⟩ [.ref a] [.ref a] _ _ hr e0 (hbind s₁ (.ref a)) (.cons rfl .nil) (hsp H hO hS)) fun r s' h => ?_
    cases r with
    | error e => exact (hCX H e s' h).elim
    | ok fl =>
      cases fl with
      | next => exact False.elim h
      | brk => exact False.elim h
      | cont => exact False.elim h
      | ret u =>
        obtain ⟨v, H', os, bare, un, hok', r', q⟩ := h
        have q' : v = .bl true := q
        subst q'
        obtain rfl : u = Value.bool true := r'
        refine ⟨rfl, OldK.of_keep fun b o e => ?_, os, bare⟩
        cases q : H b with
        | none => exact un.keep b o e q (by intro z; exact absurd (show b ∈ ([] : List Addr) from z) (by simp)) (by simp)
        | some u =>
          rcases hO b with z | ⟨ob, xs, z⟩
          · rw [q] at z; cases z
          · have z2 := un.frzs b ob _ z
            obtain ⟨e1, _⟩ := hok b _ z
            obtain ⟨e2, _⟩ := hok' b _ z2
            rw [e] at e1; cases e1
            exact e2
  cases hk : K.lookup a with
  | some o =>
    -- the script is one of the module's own objects
    have e := KX a o hk
    rw [ha] at e
    cases e
    refine core (fun _ => none) (fun _ => .inl rfl) (.inr ⟨_, vs.toArray, _, hk, rfl, rfl, rfl, by rw [List.size_toArray, lenV]; exact hl, by simpa using rv⟩) (fun b u z => by have z' : (none : Option HO) = some u := z; cases z') (fun b z => absurd rfl z) fun z => absurd rfl z
  | none =>
    refine core (fun b => if b = a then some (.frz { cls := .type "list", data := .seq vs.toArray } (.lst (ns.map V.int))) else none) (fun b => ?_) (.inl (.inr ⟨{ cls := .type "list", data := .seq vs.toArray }, if_pos rfl⟩)) (fun b u z => ?_) (fun b z => ?_) fun _ => hk
    · by_cases hb : b = a
      · exact .inr ⟨_, _, if_pos hb⟩
      · exact .inl (if_neg hb)
    · by_cases hb : b = a
      · have z' := (if_pos hb).symm.trans z
        cases z'
        subst hb
        exact ⟨ha, by rw [List.length_map]; exact hl, vs, _, rv, ha⟩
      · have z' := (if_neg hb).symm.trans z
        cases z'
    · by_cases hb : b = a
      · exact hb
      · exact absurd (if_neg hb) z
end L2

namespace L2
open PySem PySem.Spec PyProof.Rows

abbrev KOf {K : PySem.W.Frag} {h : Heap} (_ : K.In h) : PySem.W.Frag := K

/-- the goal that k_head leaves (case hc), from the law's promise. F gives the function object fd (K's own) once, then the promise over every base -/
theorem walk_of {l : PySem.W.OpenLaw} {n k : Nat} {q : Program} {loose : List Str} {XP : (Str → Option Value) → Heap → Prop} {YP : World → Heap → Prop} {d : DefRec} {K : Params → PySem.W.Frag} {CX : World → CXT} {sp : World → Sp} {x : Str}
    (hn : l.most = some n) (hn2 : n ≤ sizeLine) (hdf : d.params.defaults = []) (hr : Room k callerA)
    (hY : ∀ (w : World) (h : Heap), YP w h → (K w.params).In h)
    (F : ∀ (w : World) (mg : Str → Option Value) (fa : Addr) (h : Heap), (K w.params).In h → h.Ns mainGlobals mg → mg d.name = some (.ref fa) →
      ∃ fd : FuncData, (∀ (s : Shared) (u : Value), BindsTo s fd ⟨[u], []⟩ [(x, u)]) ∧
        ∀ base : Heap, (K w.params).In base → base.Ns mainGlobals mg → FnOk l.prog w (K w.params) mg base (CX w) k fa fd [x] (sp w))
    (hsp : ∀ (w : World) (H : Hp) (a : Addr) (ns : List Int), ns.length ≤ n → Only H → SqL (K w.params) H a (ns.map V.int) → sp w [.ref a] H (fun v _ => v = .bl true) fun _ _ _ => False)
    (hCX : ∀ (w : World) (H : Hp) (s : Shared) (e : Value) (s' : Shared), CX w [] H s (fun _ _ _ => False) e s' → False) :
    PySem.W.WalkO q loose XP YP l.row.toRowW d [] (fun f vs => PySem.call f vs) := by
  refine Att.attach_call hn hdf fun w s₀ s₁ mg mb fa o pm cd doc a vs ns G Y ho hd hcd hmg hobj hints hlen hg => ?_
  have KX := hY w _ Y
  obtain ⟨fd, hb, hF⟩ := F w mg fa _ KX G.T.g hmg
  exact law_call KX G.T.g G.T.b G.T.builtins G.T.nolimit hg hobj hints (Nat.le_trans hlen hn2) hr hF hb (fun H hO hS => hsp w H a ns hlen hO hS) fun H e s' => hCX w H s₁ e s'
/-- the same where the promise hangs on the written part alone: (sp := My.sp_law), no hole under a binder -/
theorem walk_ofK {l : PySem.W.OpenLaw} {n k : Nat} {q : Program} {loose : List Str} {XP : (Str → Option Value) → Heap → Prop} {YP : World → Heap → Prop} {d : DefRec} {K : Params → PySem.W.Frag} {CX : CXT} {sp : PySem.W.Frag → Sp} {x : Str}
    (hn : l.most = some n) (hn2 : n ≤ sizeLine) (hdf : d.params.defaults = []) (hr : Room k callerA)
    (hY : ∀ (w : World) (h : Heap), YP w h → (K w.params).In h)
    (F : ∀ (w : World) (mg : Str → Option Value) (fa : Addr) (h : Heap), (K w.params).In h → h.Ns mainGlobals mg → mg d.name = some (.ref fa) →
      ∃ fd : FuncData, (∀ (s : Shared) (u : Value), BindsTo s fd ⟨[u], []⟩ [(x, u)]) ∧
        ∀ base : Heap, (K w.params).In base → base.Ns mainGlobals mg → FnOk l.prog w (K w.params) mg base CX k fa fd [x] (sp (K w.params)))
    (hsp : ∀ (K : PySem.W.Frag) (H : Hp) (a : Addr) (ns : List Int), ns.length ≤ n → Only H → SqL K H a (ns.map V.int) → sp K [.ref a] H (fun v _ => v = .bl true) fun _ _ _ => False)
    (hCX : ∀ (H : Hp) (s : Shared) (e : Value) (s' : Shared), CX [] H s (fun _ _ _ => False) e s' → False) :
    PySem.W.WalkO q loose XP YP l.row.toRowW d [] (fun f vs => PySem.call f vs) :=
  walk_of (K := K) (CX := fun _ => CX) (sp := fun w => sp (K w.params)) hn hn2 hdf hr hY F (fun w H a ns h1 h2 h3 => hsp (K w.params) H a ns h1 h2 h3) fun _ H s e s' => hCX H s e s'
end L2

/- THE LAST THEOREM (shape; LID, My.* are yours):
   My.Adr: a structure of the addresses that your layer names (classes, functions); My.Txt K t: a structure (Prop) of the equations over K;
   My.txt_mk : {K} {implicit addresses ..} (e1 : nsIn K mainGlobals "law" = some (some (.ref f))) (e2 : K.lookup f = some ⟨oc, od, .func (fnOf "law" "law" params body scope dV kV doc pm an cdv ct), sl⟩) (e3 : codeIn K cdv "law" = true) .. : ∃ t, My.Txt K t

set_option maxRecDepth 100000 in
set_option maxHeartbeats 0 in
theorem PySem.Challenge.cw_LID_holds : PySem.Challenge.rw_LID.Holds := by
  w_on; o_law; k_head; (case hw => w_witness2)
  k_fill
  refine L2.walk_of (l := PySem.Challenge.rw_LID) (n := 63) (k := 40) (x := "script") (CX := fun w => ..) (sp := fun _ => My.sp_law) rfl (by decide) rfl ⟨rfl, by decide, by decide⟩ (fun w h Y => PySem.W.kIn_of Y) ?F ?S ?C
  case F =>
    intro w mg fa h KX G hmg
    have T : ∃ t, My.Txt (L2.KOf KX) t := by
      dsimp only [L2.KOf]                          -- K must stand as «<heap const> w.params» for k_is
      refine' My.txt_mk ?e1 ?e2 ?e3 ..
      (case e1 => PySem.W.k_is)                    -- in the order: a name -> its address -> its object -> its parts
      (case e2 => PySem.W.k_is)
      ..
    obtain ⟨t, T⟩ := T
    have e0 := hmg.symm.trans (PySem.W.mg_of KX G T.law)
    cases e0                                       -- fa is the law's own address
    exact ⟨_, fun s u => .of_eq rfl, fun base kb nb => My.law_fn T kb nb⟩     -- if «.of_eq rfl» comes too early: refine' ⟨_, ?b, fun base kb nb => My.law_fn T kb nb⟩; exact fun s u => .of_eq rfl
  case S => exact fun w H a ns hl hO hS => ..
  case C => exact ..
(the tactic k_is has no namespace: write k_is) -/

/-! SHORT WORDS over the layer: a def of the text, its body, what a loop and a test want. -/
namespace L2
open PySem PySem.Spec PyProof.Rows

/-! ### the text by places -/
/-- the j-th statement of a class's body -/
def inClass (s : Stmt) (j : Nat) : Stmt := match s with
  | .ClassDef _ _ _ body _ _ _ _ _ _ _ => body.getD j (.Pass ⟨0, 0, 0, 0⟩)
  | _ => .Pass ⟨0, 0, 0, 0⟩
def defArgs (s : Stmt) : Arguments := match s with
  | .FunctionDef _ a _ _ _ _ _ _ _ _ => a
  | _ => { posonlyargs := [], args := [], vararg := none, kwonlyargs := [], kw_defaults := [], kwarg := none, defaults := [] }
def defBody (s : Stmt) : List Stmt := match s with
  | .FunctionDef _ _ b _ _ _ _ _ _ _ => b
  | _ => []
def defScope (s : Stmt) : Scope := match s with
  | .FunctionDef _ _ _ _ _ _ sc _ _ _ => sc
  | _ => { kind := .function, names := [], isGenerator := false, isCoroutine := false }

/-! ### no exception leaves a def -/
abbrev CX0 : CXT := fun _ _ _ _ _ _ => False
abbrev E0 : XK := fun _ _ _ => False
theorem pass0 {X : Cx} : Passes CX0 X E0 := fun _ _ _ _ _ _ _ h => h.elim

/-! ### a def (or method) of the text as it stands behind the top -/
structure Fun (K : PySem.W.Frag) (x qual : Str) (st : Stmt) (f : Addr) (fd : FuncData) : Prop where
  ex : ∃ (oc : Value) (od : Option Addr) (kV doc pm : Value) (an : Option Addr) (cdv ct : Value) (osl : Array (Option Value)),
    fd = PySem.W.fnOf x qual (defArgs st) (defBody st) (defScope st) .none kV doc pm an cdv ct ∧ K.lookup f = some ⟨oc, od, .func fd, osl⟩ ∧ PySem.W.codeIn K cdv qual = true
  kp : PySem.W.keepIn K (.ref f) = true
section
variable {P : Program} {w : World} {K : PySem.W.Frag} {mg : Str → Option Value} {base : Heap}
/-- THE RULE for a def: its body as a term of rules, and the reading of that term -/
theorem Fun.ok {x qual : Str} {st : Stmt} {f : Addr} {fd : FuncData} {N ps : List Str} {k : Nat} {sp : Sp} (F : Fun K x qual st f fd) (S : FnScope N ps (defScope st)) (len : ∀ vs H Q E, sp vs H Q E → vs.length = ps.length)
    (hbody : ∀ (cdv : Value) (A : Around) (outer : List Env) (s : Shared) (H : Hp) (vs : List V) (Q : VK) (E : XK), Room k (A.deeper (envOfC qual (defScope st) s.heap.objs.size f cdv)) → sp vs H Q E →
      ∃ t, PSs (cxOf CX0 P w K mg base N qual (defScope st) f cdv A outer s H E).nox (defBody st) t ∧ t { nx := fun _ H' => Q .non H', rt := Q } (start N vs) H) : FnOk P w K mg base CX0 (k + 1) f fd ps sp := by
  obtain ⟨oc, od, kV, doc, pm, an, cdv, ct, osl, rfl, lk, hcd⟩ := F.ex
  refine fn_of lk hcd S len fun A outer s H vs Q E hr hsp => ?_
  obtain ⟨t, h, q⟩ := hbody cdv A outer s H vs Q E hr hsp
  exact ⟨t, h.nox, q⟩
/-- how its arguments bind (no defaults): h is «fun _ _ _ _ _ _ us hl => match us, hl with | [_, _], _ => rfl», one _ a parameter -/
theorem Fun.binds {x qual : Str} {st : Stmt} {f : Addr} {fd : FuncData} {ps : List Str} (F : Fun K x qual st f fd)
    (h : ∀ (kV doc pm : Value) (an : Option Addr) (cdv ct : Value) (us : List Value), us.length = ps.length → bindArgs (PySem.W.fnOf x qual (defArgs st) (defBody st) (defScope st) .none kV doc pm an cdv ct) ⟨us, []⟩ = pure (ps.zip us)) : Binds K fd ps [] := by
  obtain ⟨oc, od, kV, doc, pm, an, cdv, ct, osl, rfl, lk, hcd⟩ := F.ex
  exact .all (h kV doc pm an cdv ct)
theorem fun_mk {x qual : Str} {st : Stmt} {f : Addr} {oc : Value} {od an : Option Addr} {osl : Array (Option Value)} {kV doc pm cdv ct : Value} (l : K.lookup f = some ⟨oc, od, .func (PySem.W.fnOf x qual (defArgs st) (defBody st) (defScope st) .none kV doc pm an cdv ct), osl⟩)
    (c : PySem.W.codeIn K cdv qual = true) (k : PySem.W.keepIn K (.ref f) = true) : Fun K x qual st f (PySem.W.fnOf x qual (defArgs st) (defBody st) (defScope st) .none kV doc pm an cdv ct) := ⟨⟨oc, od, kV, doc, pm, an, cdv, ct, osl, rfl, l, c⟩, k⟩
end
theorem hu_of {A : Around} {k : Nat} (hr : Room k A) : A.units + 1 < cLine := Nat.lt_of_le_of_lt (Nat.add_le_add_left (by decide : 1 ≤ 64) _) hr.units
theorem small1000 {n : Nat} (h : n ≤ 1000) : n < sizeLine := Nat.lt_of_le_of_lt h (by decide)

/-! ### expressions in short: the name that stands in the i-th slot -/
section
variable {X : Cx}
theorem pv (i : Nat) {x : Str} {pos : Pos} (hN : X.N[i]? = some x := by rfl) (hv : Vis X.env.scope x := by first | exact Or.inl rfl | exact Or.inr (Or.inl rfl) | exact Or.inr (Or.inr rfl)) (hd : (x == ("__debug__" : Str)) = false := by decide)
    (hcd : (x == ("__classdict__" : Str)) = false := by decide) : PE X (.Name x pos) (tVar i) := pe_var hN hv hd hcd
end

/-! ### tests -/
theorem iteF {A B : Prop} (h : B) : if false = true then A else B := by
  rw [if_neg Bool.false_ne_true]
  exact h
theorem iteT {A B : Prop} (h : A) : if true = true then A else B := by
  rw [if_pos rfl]
  exact h
theorem ite2 {c A B : Prop} [Decidable c] (h1 : c → A) (h2 : ¬ c → B) : if c then A else B := by
  by_cases h : c
  · rw [if_pos h]
    exact h1 h
  · rw [if_neg h]
    exact h2 h
theorem iteNS {c A B : Prop} [Decidable c] (hc : c) (h : B) : if (!decide c) = true then A else B := by
  rw [decide_eq_true hc]
  exact iteF h

/-! ### heaps -/
/-- all that was tracked is as it was -/
def Same (H H' : Hp) : Prop := ∀ b o, H b = some o → H' b = some o
theorem Same.refl (H : Hp) : Same H H := fun _ _ h => h
theorem Same.trans {H H1 H2 : Hp} (a : Same H H1) (b : Same H1 H2) : Same H H2 := fun c o h => b c o (a c o h)
theorem Same.free {H H' : Hp} (e : Same H H') {l : Addr} (h : H' l = Option.none) : H l = Option.none := by
  cases q : H l with
  | none => rfl
  | some o =>
    rw [e l o q] at h
    cases h
theorem Same.seq {K : PySem.W.Frag} {H H' : Hp} {a : Addr} {xs : List V} (e : Same H H') (h : SqL K H a xs) : SqL K H' a xs := by
  rcases h with (h | ⟨o, h⟩) | h
  · exact .inl (.inl (e _ _ h))
  · exact .inl (.inr ⟨o, e _ _ h⟩)
  · exact .inr h

/-! ### a dict's pairs: keys that differ -/
section
variable {κ : Type} [DecidableEq κ]
theorem valV_not {kvs : List (κ × V)} {k : κ} (h : valV kvs k = none) : ¬ k ∈ kvs.map (·.1) := by
  intro m
  obtain ⟨p, hp, e⟩ := List.mem_map.mp m
  have q : (kvs.any fun kv => decide (kv.1 = k)) = true := List.any_eq_true.mpr ⟨p, hp, decide_eq_true e⟩
  rw [valV_any, h] at q
  exact absurd q (by simp)
theorem valV_in {kvs : List (κ × V)} {k : κ} {v : V} (h : valV kvs k = some v) : k ∈ kvs.map (·.1) := by
  have q : (kvs.any fun kv => decide (kv.1 = k)) = true := by
    rw [valV_any, h]
    all_goals rfl
  obtain ⟨p, hp, e⟩ := List.any_eq_true.mp q
  exact List.mem_map.mpr ⟨p, hp, of_decide_eq_true e⟩
theorem nd_snoc : ∀ {l : List κ} {k : κ}, l.Nodup → ¬ k ∈ l → (l ++ [k]).Nodup
  | [], k, _, _ => by simp
  | a :: r, k, h, hk => by
    obtain ⟨h1, h2⟩ := List.nodup_cons.mp h
    show (a :: (r ++ [k])).Nodup
    refine List.nodup_cons.mpr ⟨fun m => ?_, nd_snoc h2 fun m => hk (List.mem_cons.mpr (Or.inr m))⟩
    rcases List.mem_append.mp m with q | q
    · exact h1 q
    · exact hk (List.mem_cons.mpr (Or.inl (List.mem_singleton.mp q).symm))
theorem nd_putK {kvs : List (κ × V)} {k : κ} (v : V) (hn : (kvs.map (·.1)).Nodup) (h : valV kvs k = none) : ((putK kvs k v).map (·.1)).Nodup := by
  rw [putK_new v h, List.map_append]
  exact nd_snoc hn (valV_not h)
theorem dropK_pos {p : κ × V} {r : List (κ × V)} {k : κ} (e : p.1 = k) : dropK (p :: r) k = dropK r k := by
  unfold dropK
  rw [List.filter_cons, if_neg (by simp [e])]
theorem dropK_neg {p : κ × V} {r : List (κ × V)} {k : κ} (e : ¬ p.1 = k) : dropK (p :: r) k = p :: dropK r k := by
  unfold dropK
  rw [List.filter_cons, if_pos (by simp [e])]
theorem dropK_no : ∀ {kvs : List (κ × V)} {k : κ}, ¬ k ∈ kvs.map (·.1) → dropK kvs k = kvs
  | [], _, _ => rfl
  | p :: r, k, h => by
    have h' : ¬ k ∈ r.map (·.1) := fun m => by
      obtain ⟨q, hq, e⟩ := List.mem_map.mp m
      exact h (List.mem_map.mpr ⟨q, List.mem_cons.mpr (Or.inr hq), e⟩)
    rw [dropK_neg fun e => h (List.mem_map.mpr ⟨p, List.mem_cons.mpr (Or.inl rfl), e⟩), dropK_no h']
theorem dropK_mem {kvs : List (κ × V)} {k : κ} {p : κ × V} (h : p ∈ dropK kvs k) : p ∈ kvs := (List.mem_filter.mp h).1
theorem nd_dropK : ∀ {kvs : List (κ × V)} {k : κ}, (kvs.map (·.1)).Nodup → ((dropK kvs k).map (·.1)).Nodup
  | [], _, _ => List.nodup_nil
  | p :: r, k, h => by
    have h : (p.1 :: r.map (·.1)).Nodup := h
    obtain ⟨h1, h2⟩ := List.nodup_cons.mp h
    by_cases e : p.1 = k
    · rw [dropK_pos e]
      exact nd_dropK h2
    · rw [dropK_neg e]
      show (p.1 :: (dropK r k).map (·.1)).Nodup
      refine List.nodup_cons.mpr ⟨fun m => h1 ?_, nd_dropK h2⟩
      obtain ⟨q, hq, eq⟩ := List.mem_map.mp m
      exact List.mem_map.mpr ⟨q, dropK_mem hq, eq⟩
theorem dropK_len : ∀ {kvs : List (κ × V)} {k : κ}, (kvs.map (·.1)).Nodup → k ∈ kvs.map (·.1) → (dropK kvs k).length + 1 = kvs.length
  | [], _, _, m => by simp at m
  | p :: r, k, h, m => by
    have h : (p.1 :: r.map (·.1)).Nodup := h
    have m : k = p.1 ∨ k ∈ r.map (·.1) := List.mem_cons.mp m
    obtain ⟨h1, h2⟩ := List.nodup_cons.mp h
    by_cases e : p.1 = k
    · subst e
      rw [dropK_pos rfl, dropK_no h1]
      all_goals rfl
    · have m' : k ∈ r.map (·.1) := m.resolve_left fun z => e z.symm
      have q := dropK_len h2 m'
      rw [dropK_neg e, List.length_cons, List.length_cons]
      omega
end
end L2

set_option maxHeartbeats 4000000
namespace L2
open PySem PySem.Spec PyProof.Rows

/-! ### list comprehensions -/
/-- one turn of a list comprehension, whatever its target -/
theorem lc_loop {prog : Program} {w : World} {A : Around} {R : Result → Shared → Prop} {s : Shared} {elt target iter : Expr} {ifs : List Expr} {scope : Scope} {pos : Pos} {it acc : Value} {env : Env} (I : Nat → Shared → Prop)
    (turn : ∀ n s, I n s → wpAny (model prog w) A (pyNext it) (fun r s₁ => match r with
      | none => R (.ok .next) s₁
      | some v => wpAny (model prog w) A (letOwnedTupleGo target it v) (fun _ s₁' => wpAny (model prog w) A (assign target env v) (fun _ s₂ =>
          wpAny (model prog w) A (forIn ifs true fun c r => if r = true then do let ok ← isTrue c env (eval c env); pure (ForInStep.yield ok) else pure (ForInStep.yield r)) (fun ok s₃ =>
            if ok = true then wpAny (model prog w) A (eval elt env) (fun x s₄ =>
              wpAny (model prog w) A (call (.builtin "list.append") [acc, x]) (fun _ s₅ => ∃ m, m < n ∧ I m s₅) (fun _ _ => False) s₄) (fun _ _ => False) s₃
            else ∃ m, m < n ∧ I m s₃) (fun _ _ => False) s₂) (fun _ _ => False) s₁') (fun _ _ => False) s₁) (fun _ _ => False) s)
    (n : Nat) (h : I n s) :
    codeAny (model prog w) A (.compLoop (.ListComp elt [⟨target, iter, ifs, 0⟩] scope pos) 0 it acc env) R s := by
  refine codeAny_loop rfl I (fun n s hI => ?_) n h
  show wpAny _ A ((compTurn (.ListComp elt [⟨target, iter, ifs, 0⟩] scope pos) 0 it acc env).onRaise (fun x => do noteFrame x env; theTreesLotGoes x)) _ _ s
  refine wpAny_noted ?_
  rw [compTurn_list]
  have no : ∀ {E : Value → Shared → Prop} (x : Value) (s : Shared), False → E x s := fun _ _ z => z.elim
  refine wpAny_bind (wpAny_standAt (wpAny_bind (wpAny_mono (turn n s hI) (fun r s₁ h₁ => ?_) no)))
  cases r with
  | none => exact wpAny_pure h₁
  | some v =>
    refine wpAny_bind (wpAny_mono h₁ (fun _ s₁' h₁' => ?_) no)
    refine wpAny_bind (wpAny_mono h₁' (fun _ s₂ h₂ => wpAny_bind (wpAny_mono h₂ (fun ok s₃ h₃ => ?_) no)) no)
    cases ok with
    | false => exact wpAny_pure ⟨rfl, h₃⟩
    | true =>
      exact wpAny_bind (wpAny_bind (wpAny_mono h₃ (fun x s₄ h₄ => wpAny_bind (wpAny_mono h₄ (fun _ s₅ h₅ => wpAny_pure (wpAny_pure ⟨rfl, h₅⟩)) no)) no))

/-- the cells of a comprehension's free names -/
def capCells (env : Env) : List (Str × NameKind) → List (Str × Addr) → List (Str × Addr)
  | [], acc => acc
  | (n, k) :: r, acc => if k = .free then capCells env r (match env.cells.lookup n with | some c => (n, c) :: acc | none => acc) else capCells env r acc
theorem closure_cap {env : Env} {scope : Scope} (h : ∀ x ∈ scope.names, x.2 = .free → ∃ c, env.cells.lookup x.1 = some c) : closureFor scope env = pure (capCells env scope.names []) := by
  have all : ∀ (l : List (Str × NameKind)) (acc : List (Str × Addr)), (∀ x ∈ l, x.2 = NameKind.free → ∃ c, env.cells.lookup x.1 = some c) →
      (forIn l acc fun x cs => (do
        if x.2 == NameKind.free then
          let a ← cellOf env x.1
          pure (ForInStep.yield ((x.1, a) :: cs))
        else pure (ForInStep.yield cs) : Sem _)) = pure (capCells env l acc) := by
    intro l
    induction l with
    | nil => intro acc _; rfl
    | cons x r ih =>
      intro acc hl
      obtain ⟨n, k⟩ := x
      have hr := fun y hy => hl y (List.mem_cons_of_mem _ hy)
      rw [List.forIn_cons]
      by_cases hk : k = .free
      · subst hk
        obtain ⟨c, hc⟩ := hl (n, .free) List.mem_cons_self rfl
        simp only [beq_self_eq_true, if_true, capCells]
        have e : cellOf env n = pure c := by unfold cellOf; rw [show env.cells.lookup n = some c from hc]
        rw [e]
        simp only [pure_bind]
        rw [ih _ hr, show env.cells.lookup n = some c from hc]
      · have hb : (k == NameKind.free) = false := by simpa using hk
        simp only [hb, Bool.false_eq_true, if_false, capCells, if_neg hk, pure_bind]
        exact ih _ hr
  unfold closureFor
  exact (congrArg (fun t : Sem (List (Str × Addr)) => t >>= pure) (all scope.names [] h)).trans (by simp)
theorem capCells_sub {env : Env} : ∀ (l : List (Str × NameKind)) (acc : List (Str × Addr)), (∀ n c, acc.lookup n = some c → env.cells.lookup n = some c) → ∀ n c, (capCells env l acc).lookup n = some c → env.cells.lookup n = some c
  | [], acc, h, n, c, e => h n c e
  | (m, k) :: r, acc, h, n, c, e => by
    unfold capCells at e
    split at e
    · refine capCells_sub r _ ?_ n c e
      intro n' c' e'
      split at e'
      · rename_i c0 hc0
        rw [List.lookup_cons] at e'
        split at e'
        · rename_i hb
          have : n' = m := by simpa using hb
          subst this
          cases e'
          exact hc0
        · exact h n' c' e'
      · exact h n' c' e'
    · exact capCells_sub r _ h n c e
theorem capCells_acc {env : Env} {n : Str} : ∀ (l : List (Str × NameKind)) (acc : List (Str × Addr)), (∃ c, acc.lookup n = some c) → ∃ c, (capCells env l acc).lookup n = some c
  | [], acc, h => h
  | (m, k) :: r, acc, h => by
    unfold capCells
    split
    · refine capCells_acc r _ ?_
      obtain ⟨c, hc⟩ := h
      split
      · rw [List.lookup_cons]
        split
        · exact ⟨_, rfl⟩
        · exact ⟨c, hc⟩
      · exact ⟨c, hc⟩
    · exact capCells_acc r _ h
theorem capCells_has {env : Env} {n : Str} (hc : ∃ c, env.cells.lookup n = some c) : ∀ (l : List (Str × NameKind)) (acc : List (Str × Addr)), (n, NameKind.free) ∈ l → ∃ c, (capCells env l acc).lookup n = some c
  | [], _, h => by cases h
  | (m, k) :: r, acc, h => by
    obtain ⟨c, hc⟩ := hc
    unfold capCells
    rcases List.mem_cons.mp h with e | h
    · cases e
      rw [if_pos rfl, hc]
      exact capCells_acc r _ ⟨c, by simp⟩
    · split
      · exact capCells_has ⟨c, hc⟩ r _ h
      · exact capCells_has ⟨c, hc⟩ r _ h

/-- the block of a comprehension: its own frame, the callers' and this one may change their slots -/
def Cx.comp (X : Cx) (N : List Str) (scope : Scope) (fp : List Addr) (s : Shared) (H : Hp) : Cx where
  prog := X.prog
  w := X.w
  K := X.K
  mg := X.mg
  base := X.base
  A := X.A
  N := N
  s₀ := s
  H₀ := H
  env := compEnvC scope (capCells X.env scope.names []) (s.heap.objs.size + 1) X.env
  outer := X.stack
  stack := X.stack
  ex := fp
  calm := X.calm
  fn := fun _ => false
  pn := []
  xe := fun _ _ => False
/-- the frame's values in the block: k own names, then the captured ones, each with its place outside -/
def capSt (k : Nat) (ix : List Nat) (σ : St) : St := List.replicate k none ++ ix.map fun j => (σ[j]?).join
/-- what of a comprehension's scope is asked (all decided over written scopes): own: its own names; cap: the captured ones, with their places outside -/
structure LcScope (N : List Str) (sc : Scope) (scope : Scope) (own : List Str) (ix : List Nat) : Prop where
  kind : scope.kind = .function
  nocell : ∀ y ∈ scope.names, y.2 ≠ .cell
  names : ∀ y ∈ scope.names, y.2 = .local → scope.names.lookup y.1 = some .local
  free : ∀ y ∈ scope.names, y.2 = .free → sc.names.lookup y.1 = some .cell ∨ sc.names.lookup y.1 = some .free
  cap : ∀ j ∈ ix, ∀ x, N[j]? = some x → (x, NameKind.free) ∈ scope.names ∧ (scope.names.lookup x = some .free)
  inN : ∀ j ∈ ix, j < N.length
abbrev lcN (N own : List Str) (ix : List Nat) : List Str := own ++ ix.filterMap fun j => N[j]?
theorem lcN_len {N own : List Str} {ix : List Nat} (h : ∀ j ∈ ix, j < N.length) : (lcN N own ix).length = own.length + ix.length := by
  unfold lcN
  rw [List.length_append]
  congr 1
  induction ix with
  | nil => rfl
  | cons j r ih =>
    have hj : j < N.length := h j List.mem_cons_self
    rw [List.filterMap_cons, List.getElem?_eq_getElem hj]
    show _ + 1 = _ + 1
    rw [ih fun i hi => h i (List.mem_cons_of_mem _ hi)]
theorem filterMap_get {N : List Str} : ∀ {ix : List Nat}, (∀ j ∈ ix, j < N.length) → ∀ {i : Nat} {x : Str}, (ix.filterMap fun j => N[j]?)[i]? = some x → ∃ j, ix[i]? = some j ∧ N[j]? = some x
  | [], _, i, x, e => by simp at e
  | j :: r, h, i, x, e => by
    have hj : j < N.length := h j List.mem_cons_self
    rw [List.filterMap_cons, List.getElem?_eq_getElem hj] at e
    cases i with
    | zero =>
      refine ⟨j, rfl, ?_⟩
      rw [List.getElem?_eq_getElem hj]
      exact e
    | succ i =>
      obtain ⟨j', e1, e2⟩ := filterMap_get (fun i hi => h i (List.mem_cons_of_mem _ hi)) (i := i) (x := x) (by simpa using e)
      exact ⟨j', by simpa using e1, e2⟩
theorem capSt_get {k : Nat} {ix : List Nat} {σ : St} {i : Nat} {v : V} (h : (capSt k ix σ)[i]? = some (some v)) : ∃ i' j, i = k + i' ∧ ix[i']? = some j ∧ σ[j]? = some (some v) := by
  unfold capSt at h
  by_cases hi : i < k
  · rw [List.getElem?_append_left (by simpa using hi), List.getElem?_replicate, if_pos hi] at h
    cases h
  · rw [List.getElem?_append_right (by simpa using hi), List.length_replicate, List.getElem?_map] at h
    refine ⟨i - k, ?_⟩
    cases e : ix[i - k]? with
    | none => rw [e] at h; cases h
    | some j =>
      rw [e] at h
      refine ⟨j, by omega, rfl, ?_⟩
      have h' : (σ[j]?).join = some v := by simpa using h
      cases q : σ[j]? with
      | none => rw [q] at h'; cases h'
      | some o =>
        rw [q] at h'
        exact congrArg some h'
theorem lookup_relabel_free {env : Env} {x : Str} : ∀ {names : List (Str × NameKind)}, names.lookup x = some .free →
    (names.map fun (n, k) => if (k == NameKind.free && env.scope.kind == .function && env.kindOf n == some .cell) then (n, NameKind.cell) else (n, k)).lookup x = some .cell ∨
    (names.map fun (n, k) => if (k == NameKind.free && env.scope.kind == .function && env.kindOf n == some .cell) then (n, NameKind.cell) else (n, k)).lookup x = some .free
  | [], h => by simp at h
  | (n, k) :: r, h => by
    have ih := @lookup_relabel_free env x r
    rw [List.map_cons]
    show List.lookup x ((if (k == NameKind.free && env.scope.kind == .function && env.kindOf n == some .cell) = true then (n, NameKind.cell) else (n, k)) :: _) = _ ∨ List.lookup x ((if (k == NameKind.free && env.scope.kind == .function && env.kindOf n == some .cell) = true then (n, NameKind.cell) else (n, k)) :: _) = _
    cases hx : x == n with
    | true =>
      simp only [List.lookup_cons, hx] at h
      cases h
      by_cases hc : (NameKind.free == NameKind.free && env.scope.kind == .function && env.kindOf n == some .cell) = true
      · rw [if_pos hc]; left; simp only [List.lookup_cons, hx]
      · rw [if_neg hc]; right; simp only [List.lookup_cons, hx]
    | false =>
      simp only [List.lookup_cons, hx] at h
      by_cases hc : (k == NameKind.free && env.scope.kind == .function && env.kindOf n == some .cell) = true
      · rw [if_pos hc]; simp only [List.lookup_cons, hx]; exact ih h
      · rw [if_neg hc]; simp only [List.lookup_cons, hx]; exact ih h
theorem relabel_kind_of {env : Env} {x : Str} {kd : NameKind} : ∀ {names : List (Str × NameKind)},
    (names.map fun (n, k) => if (k == NameKind.free && env.scope.kind == .function && env.kindOf n == some .cell) then (n, NameKind.cell) else (n, k)).lookup x = some kd → (kd = .cell ∨ kd = .free) → (∀ y ∈ names, y.2 ≠ .cell) →
    (x, NameKind.free) ∈ names
  | [], h, _, _ => by simp at h
  | (n, k) :: r, h, hk, hc => by
    have ih := @relabel_kind_of env x kd r
    rw [List.map_cons] at h
    have hcr : ∀ y ∈ r, y.2 ≠ .cell := fun y hy => hc y (List.mem_cons_of_mem _ hy)
    by_cases hf : k = .free
    · subst hf
      cases hx : x == n with
      | true =>
        have : x = n := by simpa using hx
        subst this
        exact List.mem_cons_self
      | false =>
        refine List.mem_cons_of_mem _ (ih ?_ hk hcr)
        by_cases hcc : (NameKind.free == NameKind.free && env.scope.kind == .function && env.kindOf n == some .cell) = true
        · have h2 : List.lookup x ((if (NameKind.free == NameKind.free && env.scope.kind == .function && env.kindOf n == some .cell) = true then (n, NameKind.cell) else (n, NameKind.free)) :: r.map fun (n, k) => if (k == NameKind.free && env.scope.kind == .function && env.kindOf n == some .cell) then (n, NameKind.cell) else (n, k)) = some kd := h
          rw [if_pos hcc, List.lookup_cons, hx] at h2
          exact h2
        · have h2 : List.lookup x ((if (NameKind.free == NameKind.free && env.scope.kind == .function && env.kindOf n == some .cell) = true then (n, NameKind.cell) else (n, NameKind.free)) :: r.map fun (n, k) => if (k == NameKind.free && env.scope.kind == .function && env.kindOf n == some .cell) then (n, NameKind.cell) else (n, k)) = some kd := h
          rw [if_neg hcc, List.lookup_cons, hx] at h2
          exact h2
    · have hb : (k == NameKind.free) = false := by simpa using hf
      have h2 : List.lookup x ((if (k == NameKind.free && env.scope.kind == .function && env.kindOf n == some .cell) = true then (n, NameKind.cell) else (n, k)) :: r.map fun (n, k) => if (k == NameKind.free && env.scope.kind == .function && env.kindOf n == some .cell) then (n, NameKind.cell) else (n, k)) = some kd := h
      rw [hb, Bool.false_and, Bool.false_and, if_neg Bool.false_ne_true, List.lookup_cons] at h2
      cases hx : x == n with
      | true =>
        rw [hx] at h2
        cases h2
        rcases hk with z | z
        · exact absurd z (hc (n, _) List.mem_cons_self)
        · exact absurd z hf
      | false =>
        rw [hx] at h2
        exact List.mem_cons_of_mem _ (ih h2 hk hcr)
end L2

set_option maxHeartbeats 4000000
namespace L2
open PySem PySem.Spec PyProof.Rows

theorem nlt {a b : Nat} (h : a < b) : a ≠ b := Nat.ne_of_lt h
theorem ngt {a b : Nat} (h : a < b) : b ≠ a := Nat.ne_of_gt h
theorem nlt1 {a b : Nat} (h : a < b) : a ≠ b + 1 := Nat.ne_of_lt (Nat.lt_succ_of_lt h)
theorem ngt1 {a b : Nat} (h : a < b) : b + 1 ≠ a := Nat.ne_of_gt (Nat.lt_succ_of_lt h)
theorem nss (a : Nat) : a ≠ a + 1 := Nat.ne_of_lt (Nat.lt_succ_self a)
theorem nss' (a : Nat) : a + 1 ≠ a := Nat.ne_of_gt (Nat.lt_succ_self a)
section
variable {X : Cx} {pins : List (Addr × Obj)} {σ : St} {H : Hp} {s : Shared} {scope : Scope} {own : List Str} {ix : List Nat} {fp : List Addr}

theorem Inv.compOk {N : List Str} (I : Inv X pins σ H s) (L : LcScope X.N X.env.scope scope own ix) (hf : ∀ b ∈ fp, FpOk X pins H b) (hlt : ∀ b ∈ fp, b < s.heap.objs.size) : (X.comp N scope fp s H).Ok where
  mod := I.ok.mod
  kind := L.kind
  glob := I.ok.glob
  blt := I.ok.blt
  above := Nat.le_succ _
  inj := fun x y c h1 h2 => I.ok.inj x y c (capCells_sub _ _ (fun _ _ z => by simp at z) x c h1) (capCells_sub _ _ (fun _ _ z => by simp at z) y c h2)
  has := fun x hx => by
    have hm : (x, NameKind.free) ∈ scope.names := by
      rcases hx with hx | hx
      · exact relabel_kind_of (env := X.env) (x := x) (names := scope.names) hx (.inl rfl) L.nocell
      · exact relabel_kind_of (env := X.env) (x := x) (names := scope.names) hx (.inr rfl) L.nocell
    exact capCells_has (I.ok.has x (L.free _ hm rfl)) _ _ hm
  cab := fun x c h => by cases h
  hd := I.ok.hd
  frames := I.ok.frames
  stk := .inl rfl
  exf := fun b hb => ⟨nlt1 (hlt b hb), fun x c e => (hf b hb).2.2.2.2.1 x c (capCells_sub _ _ (fun _ _ z => by simp at z) x c e)⟩
  bs := I.bs
  bsz := Nat.le_trans I.ok.bsz I.sz
  noex := fun b o e hb => by
    rcases (hf b hb).2.2.2.1 with z | z
    · exact I.ok.noex b o e z
    · exact absurd (Nat.lt_of_lt_of_le (Heap.lt_size e) (Nat.le_trans I.ok.bsz z)) (Nat.lt_irrefl _)
  exfs := fun b hb z => by
    rcases List.mem_cons.mp (I.stkSub b z) with e | e
    · exact (hf b hb).2.1 e
    · exact (hf b hb).2.2.1 e
  funs := I.stack
  frf := I.stkFree

theorem Inv.compStart {h1 : Heap} {tk : Nat} (I : Inv X pins σ H s) (L : LcScope X.N X.env.scope scope own ix) (hf : ∀ b ∈ fp, FpOk X pins H b) (hlt : ∀ b ∈ fp, b < s.heap.objs.size)
    (k : ∀ b o, s.heap.get? b = some o → h1.get? b = some o) {m : Str → Option Value} (hn : h1.Ns (s.heap.objs.size + 1) m) :
    Inv (X.comp (lcN X.N own ix) scope fp s H) [] (capSt own.length ix σ) H { s with heap := h1, toks := tk } := by
  have sub := fun x c => capCells_sub (env := X.env) scope.names [] (fun _ _ z => by simp at z) x c
  refine ⟨I.compOk L hf hlt, rfl, I.bare, Un.kept k, ⟨m, hn, fun i x v e1 e2 e3 => ?_⟩, fun x c e => ?_, I.hok.fresh (Nat.le_succ _), fun x c e => I.freeC x c (sub x c e), fun p hp => absurd (show p ∈ ([] : List (Addr × Obj)) from hp) (by simp), I.hok.kept k, ?_⟩
  · obtain ⟨i', j, rfl, hj, hv⟩ := capSt_get e2
    have e1' : (lcN X.N own ix)[own.length + i']? = some x := e1
    unfold lcN at e1'
    rw [List.getElem?_append_right (Nat.le_add_right _ _), Nat.add_sub_cancel_left] at e1'
    obtain ⟨j', hj', hN⟩ := filterMap_get L.inN e1'
    rw [hj] at hj'
    cases hj'
    have hjm : j ∈ ix := List.mem_of_getElem? hj
    obtain ⟨hmem, hlk⟩ := L.cap j hjm x hN
    have hkind := L.free _ hmem rfl
    obtain ⟨m0, hn0, hl0⟩ := I.loc
    obtain ⟨u, r, l⟩ := hl0 j x v hN hv (by rcases hkind with z | z; exact .inr (.inl z); exact .inr (.inr z))
    refine ⟨u, r, .inr ⟨?_, ?_⟩⟩
    · exact lookup_relabel_free (env := X.env) hlk
    · rcases l with ⟨kl, _⟩ | ⟨_, c, hc, hcell⟩
      · have kl' : X.env.scope.names.lookup x = some .local := kl
        rcases hkind with z | z
        · rw [kl'] at z; cases z
        · rw [kl'] at z; cases z
      · obtain ⟨c', hc'⟩ := capCells_has (env := X.env) ⟨c, hc⟩ scope.names [] hmem
        have : c' = c := by
          have q := sub x c' hc'
          rw [hc] at q
          exact (Option.some.inj q).symm
        subst this
        obtain ⟨o, ho, hd⟩ := hcell
        exact ⟨c', hc', o, k _ _ ho, hd⟩
  · obtain ⟨v, o, ho, hd⟩ := I.cell x c (sub x c e)
    exact ⟨v, o, k _ _ ho, hd⟩
  · show (capSt own.length ix σ).length = (lcN X.N own ix).length
    rw [lcN_len L.inN]
    unfold capSt
    rw [List.length_append, List.length_replicate, List.length_map]

/-- the target of a comprehension sets its own names alone -/
def GW (k : Nat) (g : TG) : Prop := ∀ x (σ : St) H (Q : St → Hp → Prop), g x σ H Q → g x σ H fun σ2 H2 => Q σ2 H2 ∧ σ2.length = σ.length ∧ ∀ j, k ≤ j → σ2[j]? = σ[j]?
theorem gw_name {k i : Nat} (h : i < k) : GW k (gName i) := fun x σ H Q q => ⟨q, by simp, fun j hj => by rw [List.getElem?_set_ne (by omega)]⟩
def GWs (k : Nat) (g : TGs) : Prop := ∀ x (σ : St) H (Q : St → Hp → Prop), g x σ H Q → g x σ H fun σ2 H2 => Q σ2 H2 ∧ σ2.length = σ.length ∧ ∀ j, k ≤ j → σ2[j]? = σ[j]?
def GM (g : TG) : Prop := ∀ x (σ : St) H (Q Q' : St → Hp → Prop), (∀ s h, Q s h → Q' s h) → g x σ H Q → g x σ H Q'
theorem gm_name {i : Nat} : GM (gName i) := fun _ _ _ _ _ h q => h _ _ q
theorem gws_nil {k : Nat} : GWs k gNil := fun x σ H Q q => ⟨q.1, q.2, rfl, fun _ _ => rfl⟩
theorem gws_cons {k : Nat} {t : TG} {u : TGs} (ht : GW k t) (hu : GWs k u) (mt : GM t) (mu : ∀ x (σ : St) H (Q Q' : St → Hp → Prop), (∀ s h, Q s h → Q' s h) → u x σ H Q → u x σ H Q') : GWs k (gCons t u) := fun x σ H Q q => by
  obtain ⟨v, r, e, q⟩ := q
  refine ⟨v, r, e, mt _ _ _ _ _ ?_ (ht _ _ _ _ q)⟩
  rintro σ1 H1 ⟨q1, l1, j1⟩
  refine mu _ _ _ _ _ ?_ (hu _ _ _ _ q1)
  rintro σ2 H2 ⟨q2, l2, j2⟩
  exact ⟨q2, l2.trans l1, fun j hj => (j2 j hj).trans (j1 j hj)⟩
theorem gms_nil : ∀ x (σ : St) H (Q Q' : St → Hp → Prop), (∀ s h, Q s h → Q' s h) → gNil x σ H Q → gNil x σ H Q' := fun _ _ _ _ _ h q => ⟨q.1, h _ _ q.2⟩
theorem gms_cons {t : TG} {u : TGs} (mt : GM t) (mu : ∀ x (σ : St) H (Q Q' : St → Hp → Prop), (∀ s h, Q s h → Q' s h) → u x σ H Q → u x σ H Q') : ∀ x (σ : St) H (Q Q' : St → Hp → Prop), (∀ s h, Q s h → Q' s h) → gCons t u x σ H Q → gCons t u x σ H Q' :=
  fun _ _ _ _ _ h ⟨v, r, e, q⟩ => ⟨v, r, e, mt _ _ _ _ _ (fun _ _ q1 => mu _ _ _ _ _ h q1) q⟩
theorem gw_tup {k : Nat} {K : PySem.W.Frag} {n : Nat} {t : TGs} (ht : GWs k t) : GW k (gTup K n t) := fun x σ H Q q => by
  obtain ⟨a, xs, e, hq, hl, q⟩ := q
  exact ⟨a, xs, e, hq, hl, ht _ _ _ _ q⟩
theorem gw_two {K : PySem.W.Frag} {i j k : Nat} (hi : i < k) (hj : j < k) : GW k (gTup K 2 (gCons (gName i) (gCons (gName j) gNil))) :=
  gw_tup (gws_cons (gw_name hi) (gws_cons (gw_name hj) gws_nil gm_name gms_nil) gm_name (gms_cons gm_name gms_nil))

/-- the tests of a comprehension -/
def PIf (X : Cx) (ifs : List Expr) (t : TT) : Prop :=
  ∀ (pins : List (Addr × Obj)) (s : Shared) (σ : St) (H : Hp) (Q : Bool → Hp → Prop), Inv X pins σ H s → t σ H Q →
    wpAny (model X.prog X.w) X.A (forIn ifs true fun c r => if r = true then do let ok ← isTrue c X.env (eval c X.env); pure (ForInStep.yield ok) else pure (ForInStep.yield r)) (TP X pins σ Q) X.xe s
def tYes : TT := fun _ H Q => Q true H
theorem pif_nil : PIf X [] tYes := fun _ _ _ H _ I h => wpAny_tests_nil ⟨H, I, h⟩
theorem pif_one {c : Expr} {t : TT} (h : PT X c t) : PIf X [c] t := fun pins s σ H Q I q => wpAny_tests_one (h pins s σ H Q I q)

/-- a comprehension's reading: W by the turn, a measure, what is laid so far, the heap -/
def rLC (J : It) (k : Nat) (ix : List Nat) (g : TG) (tt : TT) (te : TE) (σ : St) (H1 : Hp) (Q : List V → Hp → Prop) : Prop :=
  ∃ W : Nat → Nat → List V → Hp → Prop, (∃ m, W 0 m [] H1) ∧ ∀ i m ys H, W i m ys H →
    (J.stop i H ∧ Q ys H) ∨
    (J.go i H ∧ ∃ N : List V → Hp → Prop, (∀ ys' H', N ys' H' → ∃ m', m' < m ∧ W (i + 1) m' ys' H') ∧ ∀ x H', J.yld i H x H' → g x (capSt k ix σ) H' fun σ2 H2 => tt σ2 H2 fun c H3 =>
      if c = true then te σ2 H3 fun y H4 => ys.length < sizeLine ∧ N (ys ++ [y]) H4
      else N ys H3)

theorem lc_block {elt tg iter : Expr} {ifs : List Expr} {pos : Pos} {it : Addr} {tn : Nat → Heap → Prop} {J : It} {g : TG} {tt : TT} {te : TE} {E : Value → Shared → Prop} {Qf : List V → Hp → Prop} {RR : Value → Addr → Result → Shared → Prop}
    (L : LcScope X.N X.env.scope scope own ix) (hc : X.calm = true) (hg : ∀ fp s H, PG (X.comp (lcN X.N own ix) scope fp s H) tg g) (gw : GW own.length g)
    (ht : ∀ fp s H, PIf (X.comp (lcN X.N own ix) scope fp s H) ifs tt) (he : ∀ fp s H, PE (X.comp (lcN X.N own ix) scope fp s H) elt te)
    (I : Inv X pins σ H s) (T : Turn X.prog X.w X.K tg J fp it tn) (st : tn 0 s.heap) (hf : ∀ b ∈ fp, FpOk X pins H b)
    (hw : rLC J own.length ix g tt te σ H Qf)
    (hRR : ∀ (D C : Addr) (s' : Shared) (ys : List V) (H' : Hp) (m : Str → Option Value), s'.heap.Ns C m → C ≠ X.env.locals → (∀ x c, X.env.cells.lookup x = some c → c ≠ C) → X.s₀.heap.objs.size ≤ C → (∀ p ∈ X.pn ++ pins, p.1 ≠ C) → upd H' D (.lst ys) C = none → H' D = none →
      Inv X pins σ (upd H' D (.lst ys)) s' → Qf ys H' → RR (.ref D) C (.ok .next) s') :
    wpAny (model X.prog X.w) X.A (newList []) (fun acc s₃ => wpAny (model X.prog X.w) X.A (newFunctionEnv scope X.env.globals (capCells X.env scope.names []) [] X.env.qual none .none (some X.env)) (fun cenv s₄ =>
      codeAny (model X.prog X.w) X.A (.compStart (.ListComp elt [⟨tg, iter, ifs, 0⟩] scope pos) 0 (.ref it) acc { cenv with scope := relabel scope X.env }) (RR acc cenv.locals) s₄) E s₃) E s := by
  obtain ⟨W, ⟨m0, w0⟩, turn⟩ := hw
  have hlt : ∀ b ∈ fp, b < s.heap.objs.size := fun b hb => by
    obtain ⟨o, e, _⟩ := T.obj 0 s.heap st b hb
    exact Heap.lt_size e
  refine wpAny_newObj_type (wpAny_newFunctionEnv L.nocell (by intro y hy; simp at hy) (fun h₁ hns₁ hsb₁ => ?_) L.kind)
  dsimp only at hns₁ hsb₁ ⊢
  generalize hH2 : s.heap.push { cls := .type "list", dict := none, data := .seq ([] : List Value).toArray } = h2 at hns₁ hsb₁ ⊢
  have hC : h2.objs.size = s.heap.objs.size + 1 := by rw [← hH2, Heap.size_push]
  have old : ∀ b o, s.heap.get? b = some o → h₁.get? b = some o := fun b o e => by
    exact hsb₁.extBut b o (by rw [hC]; exact nlt1 (Heap.lt_size e)) (Heap.get?_push_of_some _ (hH2 ▸ Heap.get?_push_of_some _ e))
  have hacc : h₁.PlainList s.heap.objs.size #[] := ⟨_, hsb₁.extBut _ _ (by rw [hC]; exact nss _) (Heap.get?_push_of_some _ (hH2 ▸ Heap.get?_push_size _ rfl))⟩
  have hD0 : H s.heap.objs.size = none := I.hok.fresh (Nat.le_refl _)
  rw [hC] at hns₁
  have I0 := I.compStart (tk := s.toks + ([] : List (Str × Value)).length) L hf hlt old hns₁
  have sub := fun x c => capCells_sub (env := X.env) scope.names [] (fun _ _ z => by simp at z) x c
  have cellLt : ∀ x c, X.env.cells.lookup x = some c → c < s.heap.objs.size := fun x c e => by
    obtain ⟨v, q⟩ := I.cell x c e
    exact q.lt
  have stkLt : ∀ b ∈ frs X.stack, b < s.heap.objs.size := fun b hb => by
    obtain ⟨_, o, ho, _⟩ := I.stack.mem hb
    exact Heap.lt_size ho
  have env_eq : ({ newEnv scope h2.objs.size X.env.globals (capCells X.env scope.names []) X.env.qual none .none (some X.env) builtinsNs with scope := relabel scope X.env } : Env) = (X.comp (lcN X.N own ix) scope fp s H).env := by
    show compEnvC scope (capCells X.env scope.names []) h2.objs.size X.env = compEnvC scope (capCells X.env scope.names []) (s.heap.objs.size + 1) X.env
    rw [hC]
  -- the loop
  have loop : codeAny (model X.prog X.w) X.A (.compLoop (.ListComp elt [⟨tg, iter, ifs, 0⟩] scope pos) 0 (.ref it) (.ref s.heap.objs.size) (X.comp (lcN X.N own ix) scope fp s H).env) (RR (.ref s.heap.objs.size) (s.heap.objs.size + 1))
      { s with heap := h₁, toks := s.toks + ([] : List (Str × Value)).length } := by
    refine lc_loop (fun n s' => ∃ i ys H', Inv (X.comp (lcN X.N own ix) scope fp s H) [] (capSt own.length ix σ) H' s' ∧ tn i s'.heap ∧ (∀ b ∈ fp, H' b = none) ∧ H' s.heap.objs.size = none ∧
      (∃ its : List Value, Vals ys its ∧ s'.heap.PlainList s.heap.objs.size its.toArray) ∧ ys.length ≤ sizeLine ∧ W i n ys H') ?_ m0
      ⟨0, [], H, I0, T.keep _ _ _ st (fun b _ o e => old b o e), fun b hb => (hf b hb).1, hD0, ⟨[], .nil, hacc⟩, Nat.zero_le _, w0⟩
    rintro n s3 ⟨i, ys, H3, I3, st3, fr3, d3, ⟨its, rv, n3, hp3⟩, hz, w3⟩
    -- the list's own object is pinned
    have Ip := I3.pins_of (pins' := [(s.heap.objs.size, { cls := .type "list", data := .seq its.toArray n3 })]) (fun p hp => by
      have e : p = (s.heap.objs.size, { cls := .type "list", data := .seq its.toArray n3 }) := by simpa using hp
      subst e
      exact ⟨hp3, d3, nss _, fun z => absurd (stkLt _ z) (Nat.lt_irrefl _), fun v z => by cases z⟩)
    have stat : ∀ {H' : Hp}, (∀ b ∈ fp, H' b = none) → ∀ b ∈ fp, FpOk (X.comp (lcN X.N own ix) scope fp s H) [(s.heap.objs.size, { cls := .type "list", data := .seq its.toArray n3 })] H' b := fun hn b hb =>
      ⟨hn b hb, nlt1 (hlt b hb), I3.ok.exfs b hb, .inl hb, fun x c e => (I3.ok.exf b hb).2 x c e, fun p hp => by
        have e : p = (s.heap.objs.size, { cls := .type "list", data := .seq its.toArray n3 }) := by simpa using (show p ∈ ([] : List (Addr × Obj)) ++ [(s.heap.objs.size, { cls := .type "list", data := .seq its.toArray n3 })] from hp)
        subst e
        exact ngt (hlt b hb)⟩
    rcases turn i n ys H3 w3 with ⟨stop, qf⟩ | ⟨go, N, hN, step⟩
    · refine thn (T.done (X.comp (lcN X.N own ix) scope fp s H) rfl rfl rfl hc i _ s3 _ H3 _ Ip (stat fr3) st3 stop) fun r s4 ⟨hr, I4⟩ => ?_
      subst hr
      obtain ⟨e4, d4, _⟩ := I4.pin (s.heap.objs.size, { cls := .type "list", data := .seq its.toArray n3 }) (List.mem_append_right _ List.mem_cons_self)
      obtain ⟨mC, hnC, _⟩ := I4.loc
      -- the list is tracked now
      have hok : HOk X.prog X.w (upd H3 s.heap.objs.size (.lst ys)) s4.heap := fun b u e => by
        by_cases hb : b = s.heap.objs.size
        · subst hb
          rw [upd_same] at e
          cases e
          exact ⟨hz, its, n3, rv, e4⟩
        · rw [upd_ne hb] at e
          exact (I4.hok b u e).stay (fun c v _ q => q) (fun c q => by rw [upd_ne (ne_of_none q d4)]; exact q) fun c xs q => by rw [upd_ne (ne_of_none q d4)]; exact q
      have ub := I4.base
      have un : Un (frs X.stack) fp H (upd H3 s.heap.objs.size (.lst ys)) s.heap s4.heap :=
        ⟨ub.keep, ub.slot, fun b o e n hx => by rw [upd_ne (Nat.ne_of_lt (Heap.lt_size e))]; exact ub.free b o e n hx, ub.there,
          fun b xs e => by rw [upd_ne (ne_of_none (ub.tups b xs e) d4)]; exact ub.tups b xs e, fun b o u e => by rw [upd_ne (ne_of_none (ub.frzs b o u e) d4)]; exact ub.frzs b o u e,
          fun b ps e => by
            obtain ⟨more, q⟩ := ub.tbls b ps e
            exact ⟨more, by rw [upd_ne (ne_of_none q d4)]; exact q⟩⟩
      have I5 : Inv X pins σ (upd H3 s.heap.objs.size (.lst ys)) s4 := I.call' I4.os un hok I4.bare fun b hb => by
        obtain ⟨f0, f1, f2, f3, f4, f5⟩ := hf b hb
        exact ⟨f3, f1, f4, f5⟩
      refine hRR _ _ s4 ys H3 mC hnC ?_ ?_ ?_ ?_ ?_ d4 I5 qf
      · exact ngt1 I.lt
      · intro x c e
        exact nlt1 (cellLt x c e)
      · exact Nat.le_trans I.sz (Nat.le_succ _)
      · intro p hp
        exact nlt1 (Heap.lt_size (I.pin p hp).1)
      · rw [upd_ne (nss' _)]
        exact I4.free
    · refine thn (T.item (X.comp (lcN X.N own ix) scope fp s H) rfl rfl rfl hc i _ s3 _ H3 _ Ip (stat fr3) st3 go) fun r s4 ⟨u, hr, h4⟩ => ?_
      subst hr
      refine thn h4 fun _ s5 ⟨x, H5, I5, r5, y5, st5, fr5⟩ => ?_
      have I5' := I5.pinned (stat fr5) (T.obj _ _ st5)
      refine thn (hg fp s H _ s5 _ H5 x u _ I5' r5 (gw _ _ _ _ (step x H5 y5))) fun _ s6 ⟨σ6, H6, I6, q6, l6, k6⟩ => ?_
      refine thn (ht fp s H _ s6 σ6 H6 _ I6 q6) fun c s7 ⟨H7, I7, q7⟩ => ?_
      -- what holds of the list and the iterator whatever was done
      have again : ∀ {s8 : Shared} {H8 : Hp}, Inv (X.comp (lcN X.N own ix) scope fp s H) ([(s.heap.objs.size, { cls := .type "list", data := .seq its.toArray n3 })] ++ pinsAt fp s5.heap) σ6 H8 s8 →
          Inv (X.comp (lcN X.N own ix) scope fp s H) [] (capSt own.length ix σ) H8 s8 ∧ tn (i + 1) s8.heap ∧ (∀ b ∈ fp, H8 b = none) ∧ H8 s.heap.objs.size = none ∧ s8.heap.get? s.heap.objs.size = some { cls := .type "list", data := .seq its.toArray n3 } := fun {s8 H8} I8 => by
        obtain ⟨e8, d8, _⟩ := I8.pin (s.heap.objs.size, { cls := .type "list", data := .seq its.toArray n3 }) (List.mem_append_right _ (List.mem_append_left _ List.mem_cons_self))
        refine ⟨(I8.pins_of (pins' := []) fun p hp => by cases hp).weak l6.symm fun j v e => ?_, T.keep _ _ _ st5 fun b hb o e => (I8.pin (b, o) (List.mem_append_right _ (List.mem_append_right _ (mem_pinsAt hb e)))).1, fun b hb => ?_, d8, e8⟩
        · obtain ⟨i', j', rfl, _, _⟩ := capSt_get e
          rw [k6 _ (Nat.le_add_right _ _)]
          exact e
        · obtain ⟨o, e, d⟩ := T.obj _ _ st5 b hb
          exact (I8.pin (b, o) (List.mem_append_right _ (List.mem_append_right _ (mem_pinsAt hb e)))).2.1
      cases c with
      | false =>
        rw [if_neg Bool.false_ne_true] at q7 ⊢
        obtain ⟨m', hm, w7⟩ := hN _ _ q7
        obtain ⟨a1, a2, a3, a4, a5⟩ := again I7
        exact ⟨m', hm, i + 1, ys, H7, a1, a2, a3, a4, ⟨its, rv, n3, a5⟩, hz, w7⟩
      | true =>
        rw [if_pos rfl] at q7 ⊢
        refine thn (he fp s H _ s7 σ6 H7 _ I7 q7) fun v s8 ⟨y, H8, I8, r8, hz8, q8⟩ => ?_
        obtain ⟨m', hm, w8⟩ := hN _ _ q8
        obtain ⟨a1, a2, a3, a4, a5⟩ := again I8
        refine wpAny_list_append_plain (s := s8) (l := s.heap.objs.size) (items := its.toArray) ⟨n3, a5⟩ (fun h9 hl9 hs9 => ?_) (by have := rv.length; simp; omega)
        have I9 : Inv (X.comp (lcN X.N own ix) scope fp s H) [] (capSt own.length ix σ) H8 { s8 with heap := h9 } := a1.turned (t' := s8.toks) (it := s.heap.objs.size) (fun b o hb e => hs9.extBut b o hb e) a4 (nss _)
          (.inr (Nat.le_refl _)) (fun x c e => nlt (cellLt x c (sub x c e))) (fun p hp => absurd (show p ∈ ([] : List (Addr × Obj)) from hp) (by simp))
        refine ⟨m', hm, i + 1, ys ++ [y], H8, I9, T.keep _ _ _ a2 (fun b hb o e => hs9.extBut b o (nlt (hlt b hb)) e), a3, a4, ⟨its ++ [v], Vals.append rv (.cons r8 .nil), ?_⟩, ?_, w8⟩
        · have e : (its ++ [v]).toArray = its.toArray.push v := by simp
          rw [e]
          exact hl9
        · rw [List.length_append]
          show _ + 1 ≤ _
          omega
  show codeAny _ _ (.compStart _ 0 (.ref it) (.ref s.heap.objs.size) _) (RR (.ref s.heap.objs.size) h2.objs.size) _
  rw [hC]
  have e2 := env_eq
  rw [hC] at e2
  refine Eq.mpr (congrArg (fun e => codeAny (model X.prog X.w) X.A (.compStart (.ListComp elt [⟨tg, iter, ifs, 0⟩] scope pos) 0 (.ref it) (.ref s.heap.objs.size) e) (RR (.ref s.heap.objs.size) (s.heap.objs.size + 1)) { s with heap := h₁, toks := s.toks + ([] : List (Str × Value)).length }) e2) ?_
  exact codeAny_compStart_list loop (T.self X.A 0 _ _ _ (T.keep _ _ _ st fun b _ o e => old b o e) loop)
end
end L2

set_option maxHeartbeats 4000000
namespace L2
open PySem PySem.Spec PyProof.Rows
section
variable {X : Cx} {scope : Scope} {own : List Str} {ix : List Nat}
def tLC (wi : TI) (k : Nat) (ix : List Nat) (g : TG) (tt : TT) (te : TE) : TE := fun σ H Q => wi σ H fun J H1 => rLC J k ix g tt te σ H1 fun ys H' => ∀ a, H' a = none → Q (.ref a) (upd H' a (.lst ys))
theorem Inv.clos {pins : List (Addr × Obj)} {σ : St} {H : Hp} {s : Shared} (I : Inv X pins σ H s) (L : LcScope X.N X.env.scope scope own ix) : closureFor scope X.env = pure (capCells X.env scope.names []) :=
  closure_cap fun x hx hf => I.ok.has x.1 (L.free x hx hf)
/-- [elt for tg in iter if ..] -/
theorem pe_lc {elt tg iter : Expr} {ifs : List Expr} {pos : Pos} {wi : TI} {g : TG} {tt : TT} {te : TE} (hi : PI X tg iter wi) (L : LcScope X.N X.env.scope scope own ix) (hc : X.calm = true)
    (hg : ∀ fp s H, PG (X.comp (lcN X.N own ix) scope fp s H) tg g) (gw : GW own.length g) (ht : ∀ fp s H, PIf (X.comp (lcN X.N own ix) scope fp s H) ifs tt) (he : ∀ fp s H, PE (X.comp (lcN X.N own ix) scope fp s H) elt te)
    (hs : ∀ x, foldedSetIterable iter X.env x = pure x := by intro _; rfl) : PE X (.ListComp elt [⟨tg, iter, ifs, 0⟩] scope pos) (tLC wi own.length ix g tt te) := by
  intro pins s σ H Q I h
  rw [eval_ListComp]
  refine wpAny_comprehension_free (use := none) rfl hs (I.clos L) L.kind L.names (thn (hi pins s σ H _ I h) fun v s1 h1 => thn h1 fun itv s2 h2 => ?_)
  obtain ⟨it, fp, tn, J, H2, e, I2, T, st2, f2, hw⟩ := h2
  subst e
  refine lc_block (RR := fun acc C => compPost (model X.prog X.w) X.A X.xe none (EP X pins σ Q) acc C) L hc hg gw ht he I2 T st2 f2 hw ?_
  intro D C s' ys H' m hn c1 c2 c3 c4 c5 d I' q
  exact ⟨m, hn, fun h' hs' => ⟨.ref D, _, I'.turned (t' := s'.toks) (it := C) (fun b o hb e => hs'.extBut b o hb e) c5 c1 (.inr c3) c2 c4, rfl, q D d⟩⟩
/-- y = [elt for tg in iter if ..], y a plain local name -/
theorem ps_lc {elt tg iter : Expr} {ifs : List Expr} {pos spos py : Pos} {wi : TI} {g : TG} {tt : TT} {te : TE} {i : Nat} {y : Str} (hN : X.N.Nodup) (hy : X.N[i]? = some y) (hx : X.env.scope.names.lookup y = some .local) (hi : PI X tg iter wi) (L : LcScope X.N X.env.scope scope own ix) (hc : X.calm = true)
    (hg : ∀ fp s H, PG (X.comp (lcN X.N own ix) scope fp s H) tg g) (gw : GW own.length g) (ht : ∀ fp s H, PIf (X.comp (lcN X.N own ix) scope fp s H) ifs tt) (he : ∀ fp s H, PE (X.comp (lcN X.N own ix) scope fp s H) elt te)
    (hsw : swapsWith (.ListComp elt [⟨tg, iter, ifs, 0⟩] scope pos) (some (.Name y py)) spos.line X.env = pure true := by rfl)
    (hs : ∀ x, foldedSetIterable iter X.env x = pure x := by intro _; rfl) : PS X (.Assign [.Name y py] (.ListComp elt [⟨tg, iter, ifs, 0⟩] scope pos) spos) (tAsg (tLC wi own.length ix g tt te) (gName i)) := by
  intro pins s σ H Dn I h
  rw [exec_Assign_Name_used _ _ _ _ hsw]
  refine wpAny_bind (wpAny_standAt (wpAny_bind ?_))
  show wpAny _ X.A (do let _ ← comprehension (.ListComp elt [⟨tg, iter, ifs, 0⟩] scope pos) scope X.env _ (newList []) false (eval iter X.env) (some (assign (.Name y py) X.env))) _ _ s
  refine wpAny_bind (thn (wpAny_comprehension_free (use := some (assign (.Name y py) X.env)) (Q := fun _ s' => SP X pins Dn .next s') rfl hs (I.clos L) L.kind L.names
    (thn (hi pins s σ H _ I h) fun v s1 h1 => thn h1 fun itv s2 h2 => ?_)) fun _ s' hq => wpAny_pure (wpAny_pure hq))
  obtain ⟨it, fp, tn, J, H2, e, I2, T, st2, f2, hw⟩ := h2
  subst e
  refine lc_block (RR := fun acc C => compPost (model X.prog X.w) X.A X.xe (some (assign (.Name y py) X.env)) (fun _ s' => SP X pins Dn .next s') acc C) L hc hg gw ht he I2 T st2 f2 hw ?_
  intro D C s' ys H' m hn c1 c2 c3 c4 c5 d I' q
  show wpAny _ X.A (assign (.Name y py) X.env (.ref D)) _ _ s'
  refine wpAny_assign_Name (store_ok2 I' hN hy (.inl hx) (v := .ref D) rfl (fun s2 I2 ⟨a, hs2, ha⟩ => ?_) (.inr hx))
  have aC : a ≠ C := by
    rcases ha with rfl | ha
    · exact Ne.symm c1
    · exact c2 y a ha
  refine ⟨m, hn.sameBut hs2 (Ne.symm aC), fun h' hs' => ?_⟩
  exact ⟨_, _, I2.turned (t' := s2.toks) (it := C) (fun b o hb e => hs'.extBut b o hb e) c5 c1 (.inr c3) c2 c4, q D d⟩
end

/-! ### readings of a comprehension that are used: Pv by the turn, what is laid so far, the heap -/
section
variable {k : Nat} {ix : List Nat} {g : TG} {tt : TT} {te : TE} {σ : St} {H1 : Hp} {Q : List V → Hp → Prop}
/-- the turn of a comprehension -/
def lcTurn (k : Nat) (ix : List Nat) (g : TG) (tt : TT) (te : TE) (σ : St) (x : V) (ys : List V) (H : Hp) (N : List V → Hp → Prop) : Prop :=
  g x (capSt k ix σ) H fun σ2 H2 => tt σ2 H2 fun c H3 => if c = true then te σ2 H3 fun y H4 => ys.length < sizeLine ∧ N (ys ++ [y]) H4 else N ys H3
theorem lc_by {J : It} {n : Nat} (Pv : Nat → List V → Hp → Prop) (h0 : Pv 0 [] H1) (hgo : ∀ i ys H, i < n → Pv i ys H → J.go i H) (hst : ∀ ys H, Pv n ys H → J.stop n H)
    (hs : ∀ i ys H x H', i < n → Pv i ys H → J.yld i H x H' → lcTurn k ix g tt te σ x ys H' (Pv (i + 1))) (hd : ∀ ys H, Pv n ys H → Q ys H) : rLC J k ix g tt te σ H1 Q := by
  refine ⟨fun i m ys H => m = n - i ∧ i ≤ n ∧ Pv i ys H, ⟨n, by simp, Nat.zero_le _, h0⟩, ?_⟩
  rintro i m ys H ⟨rfl, hi, p⟩
  by_cases hlt : i < n
  · exact .inr ⟨hgo i ys H hlt p, Pv (i + 1), fun ys' H' q => ⟨n - (i + 1), by omega, rfl, hlt, q⟩, fun x H' y => hs i ys H x H' hlt p y⟩
  · have e : i = n := by omega
    subst e
    exact .inl ⟨hst ys H p, hd ys H p⟩
theorem lc_range {lo : Int} {n : Nat} (Pv : Nat → List V → Hp → Prop) (h0 : Pv 0 [] H1) (hs : ∀ i ys H, i < n → Pv i ys H → lcTurn k ix g tt te σ (.int (lo + i)) ys H (Pv (i + 1)))
    (hd : ∀ ys H, Pv n ys H → Q ys H) : rLC (Itr lo n) k ix g tt te σ H1 Q :=
  lc_by (n := n) Pv h0 (fun i _ _ h _ => h) (fun _ _ _ => Nat.le_refl _) (fun i ys H x H' h p y => by
    obtain ⟨e, y⟩ := y
    subst e y
    exact hs i ys _ h p) hd
theorem lc_list {K : PySem.W.Frag} {a : Addr} {xs : List V} (Pv : Nat → List V → Hp → Prop) (h0 : Pv 0 [] H1) (hl : ∀ i ys H, i ≤ xs.length → Pv i ys H → SqL K H a xs)
    (hs : ∀ i ys H x, xs[i]? = some x → Pv i ys H → lcTurn k ix g tt te σ x ys H (Pv (i + 1))) (hd : ∀ ys H, Pv xs.length ys H → Q ys H) : rLC (Itl K a) k ix g tt te σ H1 Q :=
  lc_by (n := xs.length) Pv h0 (fun i ys H h p => ⟨xs, xs[i], hl i ys H (Nat.le_of_lt h) p, by simp [h]⟩) (fun ys H p => ⟨xs, hl _ ys H (Nat.le_refl _) p, Nat.le_refl _⟩) (fun i ys H x H' h p y => by
    obtain ⟨e, y⟩ := y
    subst e
    exact hs i ys _ x (y xs (hl i ys _ (Nat.le_of_lt h) p)) p) hd
theorem lc_tup {K : PySem.W.Frag} {a : Addr} {xs : List V} (Pv : Nat → List V → Hp → Prop) (h0 : Pv 0 [] H1) (hl : ∀ i ys H, i ≤ xs.length → Pv i ys H → SqT K H a xs)
    (hs : ∀ i ys H x, xs[i]? = some x → Pv i ys H → lcTurn k ix g tt te σ x ys H (Pv (i + 1))) (hd : ∀ ys H, Pv xs.length ys H → Q ys H) : rLC (Itt K a) k ix g tt te σ H1 Q :=
  lc_by (n := xs.length) Pv h0 (fun i ys H h p => ⟨xs, xs[i], hl i ys H (Nat.le_of_lt h) p, by simp [h]⟩) (fun ys H p => ⟨xs, hl _ ys H (Nat.le_refl _) p, Nat.le_refl _⟩) (fun i ys H x H' h p y => by
    obtain ⟨e, y⟩ := y
    subst e
    exact hs i ys _ x (y xs (hl i ys _ (Nat.le_of_lt h) p)) p) hd
end
end L2

set_option maxHeartbeats 4000000
namespace L2
open PySem PySem.Spec PyProof.Rows

/-! ### more that a loop or a comprehension walks -/
/-- n items, the i-th is f i -/
def Itf (f : Nat → V) (n : Nat) : It := ⟨fun i _ => i < n, fun i H x H' => H' = H ∧ x = f i, fun i _ => i = n⟩
theorem turn_walks {P : Program} {w : World} {K : PySem.W.Frag} {tg : Expr} {it : Addr} {n : Nat} {Pv : Nat → Value → Prop} {tn : Nat → Heap → Prop} {f : Nat → V}
    (W : ∀ A : Around, A.handled = none → Walks P w A it [it] [it] n Pv tn) (ob : ∀ i h, tn i h → ∃ o nm vs, h.get? it = some o ∧ o.cls = .type nm ∧ o.data = .fields vs ∧ ["enumerate", "zip", "dict_itemiterator", "dict_reverseitemiterator", "odict_iterator", "itertools.zip_longest", "itertools.pairwise"].contains nm = false)
    (rel : ∀ i v, Pv i v → RelV (f i) v) (hself : ∀ (A : Around) (i : Nat) (s : Shared) (Q : Value → Shared → Prop) (E : Value → Shared → Prop), tn i s.heap → Q (.ref it) s → wpAny (model P w) A (pyIter (.ref it)) Q E s) : Turn P w K tg (Itf f n) [it] it tn where
  mem := by simp
  obj := fun i h st b hb => by
    have e : b = it := by simpa using hb
    subst e
    obtain ⟨o, nm, vs, e, _, d, _⟩ := ob i h st
    exact ⟨o, e, fun v z => by rw [d] at z; cases z⟩
  keep := fun i h h' st k => by
    by_cases hA : ∃ A : Around, A.handled = none
    · obtain ⟨A, hA⟩ := hA
      exact (W A hA).frame i h h' st k
    · exact absurd ⟨callerA, rfl⟩ hA
  item := by
    intro X hP hw hK hc i pins s σ H E I hf st hg
    subst hP hw hK
    obtain ⟨f0, f1, f2, f3, f4, f5⟩ := hf it (by simp)
    refine (W X.A (I.ok.hd hc)).item i s _ _ hg st fun v h' tk hv st' kk => ?_
    have I1 : Inv X pins σ H { s with heap := h', toks := tk } := I.turned (fun b o hb e => kk b o (by simpa using hb) e) f0 f1 f3 f4 f5
    obtain ⟨o, nm, vs, e, c, d, hn⟩ := ob _ _ st'
    exact ⟨v, rfl, go_of (s := { s with heap := h', toks := tk }) e c d hn ⟨f i, H, I1, rel i v hv, ⟨rfl, rfl⟩, st', fun b hb => (hf b hb).1⟩⟩
  done := by
    intro X hP hw hK hc i pins s σ H E I hf st hg
    subst hP hw hK
    obtain ⟨f0, f1, f2, f3, f4, f5⟩ := hf it (by simp)
    have e : i = n := hg
    subst e
    exact (W X.A (I.ok.hd hc)).done s _ _ st fun h' tk kk => ⟨rfl, I.turned (fun b o hb e => kk b o (by simpa using hb) e) f0 f1 f3 f4 f5⟩
  self := hself

theorem rangeSize_small {i j c : Int} (q1 : 0 < c) (q3 : -1000000 ≤ i) (q4 : i < 1000000) (q5 : -1000000 ≤ j) (q6 : j < 1000000) : 0 ≤ Builtin.Range.rangeSize i j c ∧ Builtin.Range.rangeSize i j c ≤ 2000000 := by
  unfold Builtin.Range.rangeSize
  rw [if_pos (show c > 0 from q1)]
  by_cases h : i < j
  · rw [if_pos h]
    have h1 : 0 ≤ (j - i - 1) / c := Int.ediv_nonneg (by omega) (by omega)
    have h2 : (j - i - 1) / c ≤ j - i - 1 := Int.ediv_le_self _ (by omega)
    omega
  · rw [if_neg h]; omega
theorem range_small {i j c : Int} (q1 : 0 < c) (q2 : c < 1000) (q3 : -1000000 ≤ i) (q4 : i < 1000000) (q5 : -1000000 ≤ j) (q6 : j < 1000000) : Builtin.Range.small i j c = true := by
  obtain ⟨h1, h2⟩ := rangeSize_small q1 q3 q4 q5 q6
  unfold Builtin.Range.small
  simp only [Builtin.Range.rangeFitsLong, Bool.and_eq_true, Bool.or_eq_true, decide_eq_true_eq, beq_iff_eq, show c > 0 from q1, if_true]
  omega
section
variable {X : Cx} {tg : Expr}
theorem Inv.fp1 {pins : List (Addr × Obj)} {σ : St} {H : Hp} {s : Shared} (I : Inv X pins σ H s) : ∀ b ∈ [s.heap.objs.size], FpOk X pins H b := fun b hb => by
  have e : b = s.heap.objs.size := by simpa using hb
  subst e
  exact I.fpOk (Nat.le_refl _) (I.hok.fresh (Nat.le_refl _))
/-- the signs of a text -/
def signV (x : Str) (i : Nat) : V := .str ⟨#[x.cps.getD i 0]⟩
def iStr (ts : TE) : TI := fun σ H R => ts σ H fun x H1 => ∃ z, x = .str z ∧ R (Itf (signV z) z.cps.size) H1
theorem pi_str {e : Expr} {ts : TE} (hl : PE X e ts) : PI X tg e (iStr ts) := by
  intro pins s σ H R I h
  refine thn (hl pins s σ H _ I h) fun v s1 ⟨x, H1, I1, r1, q1⟩ => ?_
  obtain ⟨z, e, q⟩ := q1
  subst e
  obtain ⟨t, rfl⟩ := r1
  have rel : ∀ i v, SignAt z i v → RelV (signV z i) v := fun i v ⟨c, u, hc, hv⟩ => by
    subst hv
    refine ⟨u, ?_⟩
    have e : z.cps.getD i 0 = c := by rw [Array.getD_eq_getD_getElem?, hc]; rfl
    rw [e]
  cases ha : z.cps.all (· < 128) with
  | false =>
    refine wpAny_pyIter_wide ha ?_
    exact ⟨s1.heap.objs.size, [s1.heap.objs.size], _, _, H1, rfl, I1.kept (t' := s1.toks) fun b o e => Heap.get?_push_of_some _ e,
      turn_walks (fun A hA => Walks.strWide hA _ z t) (fun i h ⟨o, e, c, d⟩ => ⟨o, "str_iterator", _, e, c, d, by decide⟩) rel (fun A i s Q E st hq => wpAny_pyIter_striter_wide st hq), ⟨_, Heap.get?_push_size _ rfl, rfl, rfl⟩, fun b hb => I1.fp1 b hb, q⟩
  | true =>
    refine wpAny_pyIter_ascii ha ?_
    exact ⟨s1.heap.objs.size, [s1.heap.objs.size], _, _, H1, rfl, I1.kept (t' := s1.toks) fun b o e => Heap.get?_push_of_some _ e,
      turn_walks (fun A hA => Walks.strAscii hA _ z t) (fun i h ⟨o, e, c, d⟩ => ⟨o, "str_ascii_iterator", _, e, c, d, by decide⟩) rel (fun A i s Q E st hq => wpAny_pyIter_striter_ascii st hq), ⟨_, Heap.get?_push_size _ rfl, rfl, rfl⟩, fun b hb => I1.fp1 b hb, q⟩

/-- range(lo, hi, step), step a small positive number -/
def iRng3 (ta : TA) : TI := fun σ H R => ta σ H fun vs H1 => ∃ i j c : Int, vs = [.int i, .int j, .int c] ∧ (0 < c ∧ c < 1000 ∧ -1000000 ≤ i ∧ i < 1000000 ∧ -1000000 ≤ j ∧ j < 1000000) ∧ R (Itf (fun k => .int (i + k * c)) (Builtin.Range.rangeSize i j c).toNat) H1
theorem pi_range3 {a b c : Expr} {ta : TA} {p pos : Pos} (hg : Gl X "range") (hm : X.mg "range" = none) (ha : PA X [a, b, c] ta) (hs : starEach [a, b, c] X.env = [(false, eval a X.env), (false, eval b X.env), (false, eval c X.env)] := by rfl) (hs2 : starEach [b, c] X.env = [(false, eval b X.env), (false, eval c X.env)] := by rfl) :
    PI X tg (.Call (.Name "range" p) [a, b, c] [] pos) (iRng3 ta) := by
  intro pins s σ H R I h
  refine Call_ (ld_blt I hg hm boot_range (PyProof.Rows.callWith_type1 (thn (ha pos pins s σ H _ I h) fun us s1 ⟨vs, H1, I1, r1, q1⟩ => ?_) (by rw [hs, hs2]) (by rw [hs2]; rfl)))
  obtain ⟨i, j, c, e, ⟨q1, q2, q3, q4, q5, q6⟩, q⟩ := q1
  subst e
  cases r1 with
  | cons r rr =>
    cases rr with
    | cons r' rr =>
      cases rr with
      | cons r'' rr =>
        cases rr
        obtain ⟨t, rfl⟩ := r
        obtain ⟨t', rfl⟩ := r'
        obtain ⟨t'', rfl⟩ := r''
        refine call_range_3 (by omega) ?_ (.inl (PyProof.noPylong_small (by omega)))
        obtain ⟨z0, z1⟩ := rangeSize_small q1 q3 q4 q5 q6
        have hsz : (((Builtin.Range.rangeSize i j c).toNat : Nat) : Int) = Builtin.Range.rangeSize i j c := by omega
        refine wpAny_pyIter_range (IsRange.new ..) (range_small q1 q2 q3 q4 q5 q6) ?_
        have I2 : Inv X pins σ H1 { s1 with heap := s1.heap.push { cls := .type "range", data := .fields #[.int i t, .int j t', .int c t''] }, toks := s1.toks } := I1.kept fun b o e => Heap.get?_push_of_some _ e
        refine ⟨_, [_], _, _, H1, rfl, I2.kept (t' := s1.toks) fun b o e => Heap.get?_push_of_some _ e, turn_walks (f := fun k => .int (i + k * c)) (fun A hA => Walks.range hA _ i c (Builtin.Range.rangeSize i j c).toNat) (fun k h st => ⟨_, "range_iterator", _, st, rfl, rfl, by decide⟩) (fun k v ⟨t, e⟩ => ⟨t, e⟩) (fun A k s Q E st hq => wpAny_pyIter_rangeiter st hq), ?_, fun b hb => I2.fp1 b hb, q⟩
        show IsRangeIter _ _ (i + ((0 : Nat) : Int) * c) (((Builtin.Range.rangeSize i j c).toNat : Nat) - ((0 : Nat) : Int)) c
        have e1 : i + ((0 : Nat) : Int) * c = i := by simp
        have e2 : (((Builtin.Range.rangeSize i j c).toNat : Nat) : Int) - ((0 : Nat) : Int) = Builtin.Range.rangeSize i j c := by rw [hsz]; simp
        rw [e1, e2]
        exact Heap.get?_push_size _ rfl

/-! ### the keys of a dict: it is frozen while it is walked -/
theorem Inv.freeze {pins : List (Addr × Obj)} {σ : St} {H : Hp} {s : Shared} {d : Addr} {u : HO} {o : Obj} (I : Inv X pins σ H s) (h : H d = some u) (hu : Mut (some u)) (ho : s.heap.get? d = some o) : Inv X pins σ (upd H d (.frz o u)) s := by
  have nt : ∀ b v, H b = some v → ¬ Mut (some v) → b ≠ d := fun b v q n z => by subst z; rw [h] at q; cases q; exact n hu
  have hok : HOk X.prog X.w (upd H d (.frz o u)) s.heap := fun b v e => by
    by_cases hb : b = d
    · subst hb
      rw [upd_same] at e
      cases e
      refine ⟨ho, (I.hok b u h).stay (fun c w' _ q => q) (fun c q => ?_) fun c xs q => ?_⟩
      · rw [upd_ne (nt c _ q fun z => z)]; exact q
      · rw [upd_ne (nt c _ q fun z => z)]; exact q
    · rw [upd_ne hb] at e
      refine (I.hok b v e).stay (fun c w' _ q => q) (fun c q => ?_) fun c xs q => ?_
      · rw [upd_ne (nt c _ q fun z => z)]; exact q
      · rw [upd_ne (nt c _ q fun z => z)]; exact q
  refine I.un (h' := s.heap) (t' := s.toks) ⟨fun b o q _ _ _ => q, fun b o q _ _ _ => ⟨o.slots, q⟩, fun b o q n _ => ?_, fun b o q _ => ⟨o, q⟩, fun b xs q => ?_, fun b o v q => ?_, fun b ps q => ⟨#[], ?_⟩⟩ hok
  · rw [upd_ne (fun z => by subst z; rw [h] at n; cases n)]; exact n
  · rw [upd_ne (nt b _ q fun z => z)]; exact q
  · rw [upd_ne (nt b _ q fun z => z)]; exact q
  · rw [upd_ne (nt b _ q fun z => z), q]; simp
/-- the keys of the dict at d, which is frozen -/
def Itd (d : Addr) (o : Obj) (kvs : List (Key × V)) : It :=
  ⟨fun i H => H d = some (.frz o (.dK kvs)) ∧ i < kvs.length, fun i H x H' => H' = H ∧ ∃ k v, kvs[i]? = some (k, v) ∧ x = kV k, fun i H => H d = some (.frz o (.dK kvs)) ∧ i = kvs.length⟩
theorem KV.at {kvs : List (Key × V)} {vs : List (Key × Value)} (r : KV kvs vs) {i : Nat} {k : Key} {v : Value} (e : vs[i]? = some (k, v)) : ∃ x, kvs[i]? = some (k, x) ∧ RelV x v := by
  induction r generalizing i with
  | nil => simp at e
  | @cons p q ps qs h t ih =>
    cases i with
    | zero =>
      have e' : q = (k, v) := by simpa using e
      obtain ⟨p1, p2⟩ := p
      subst e'
      obtain ⟨h1, h2⟩ := h
      have h1' : p1 = k := h1
      subst h1'
      exact ⟨p2, rfl, h2⟩
    | succ i => exact ih (by simpa using e)
theorem kV_of {P : Program} {w : World} {k : Key} {u : Value} (h : (mixKind P w).is k u = true) : RelV (kV k) u := by
  rcases keyIs_shape (k := k) (v := u) h with ⟨i, t, rfl, rfl⟩ | ⟨x, t, rfl, rfl⟩
  · exact ⟨t, rfl⟩
  · exact ⟨t, rfl⟩
theorem turn_dict {P : Program} {w : World} {K : PySem.W.Frag} (d it : Addr) (o : Obj) (kvs : List (Key × V)) (vs : List (Key × Value)) (ep : Nat) (hlen : kvs.length = vs.length) (rel : KV kvs vs) (hat : ∀ h : Heap, h.get? d = some o → h.DictAt (mixKind P w) d vs ep) :
    Turn P w K tg (Itd d o kvs) [it] it (fun i h => h.IsKeyIter it d i vs.length ep) where
  mem := by simp
  obj := fun i h st b hb => by
    have e : b = it := by simpa using hb
    subst e
    obtain ⟨o, e, c, d⟩ := st
    exact ⟨o, e, fun v z => by rw [d] at z; cases z⟩
  keep := fun i h h' st k => st.at fun o e => k it (by simp) o e
  item := by
    intro X hP hw hK hc i pins s σ H E I hf st hg
    subst hP hw hK
    obtain ⟨hd, hi⟩ := hg
    obtain ⟨f0, f1, f2, f3, f4, f5⟩ := hf it (by simp)
    obtain ⟨ho, _⟩ := (show ObjOk X.prog X.w H s.heap d (.frz o (.dK kvs)) from I.hok d _ hd)
    have hvi : i < vs.length := by omega
    refine wpAny_pyNext_dict_item (knd := mixKind X.prog X.w) st (hat s.heap ho) (k := vs[i].1) (v := vs[i].2) (by simp [hvi]) fun key h' hkey st' sb => ?_
    have I1 : Inv X pins σ H { s with heap := h' } := I.turned (t' := s.toks) (fun b o hb e => (sb.2 b hb).trans e) f0 f1 f3 f4 f5
    obtain ⟨x, hx, _⟩ := rel.at (i := i) (k := vs[i].1) (v := vs[i].2) (by simp [hvi])
    obtain ⟨oi, e, c, dd⟩ := id st'
    exact ⟨key, rfl, go_of (s := { s with heap := h' }) e c dd (by decide) ⟨kV vs[i].1, H, I1, kV_of hkey, ⟨rfl, _, _, hx, rfl⟩, st', fun b hb => (hf b hb).1⟩⟩
  done := by
    intro X hP hw hK hc i pins s σ H E I hf st hg
    subst hP hw hK
    obtain ⟨hd, hi⟩ := hg
    obtain ⟨f0, f1, f2, f3, f4, f5⟩ := hf it (by simp)
    obtain ⟨ho, _⟩ := (show ObjOk X.prog X.w H s.heap d (.frz o (.dK kvs)) from I.hok d _ hd)
    exact wpAny_pyNext_dict_end (knd := mixKind X.prog X.w) (I.ok.hd hc) st (hat s.heap ho) (List.getElem?_eq_none_iff.mpr (by omega)) fun h' eb => ⟨rfl, I.turned (t' := s.toks) (fun b o hb e => eb b o hb e) f0 f1 f3 f4 f5⟩
  self := fun _ _ _ _ _ st h => wpAny_pyIter_keyiter st h
def iDict (td : TE) : TI := fun σ H R => td σ H fun x H1 => ∃ d kvs, x = .ref d ∧ H1 d = some (.dK kvs) ∧ ∀ o, R (Itd d o kvs) (upd H1 d (.frz o (.dK kvs)))
theorem pi_dict {e : Expr} {td : TE} (hl : PE X e td) : PI X tg e (iDict td) := by
  intro pins s σ H R I h
  refine thn (hl pins s σ H _ I h) fun v s1 ⟨x, H1, I1, r1, q1⟩ => ?_
  obtain ⟨d, kvs, e, hd, q⟩ := q1
  subst e
  cases r1
  obtain ⟨hz, hS, vs, rel, m⟩ : kvs.length ≤ sizeLine ∧ (d == sysModules) = false ∧ ∃ vs, KV kvs vs ∧ s1.heap.DictOf (mixKind X.prog X.w) d vs := I1.hok d _ hd
  obtain ⟨ep, o, es, ho, rest⟩ := m.dictAt
  have hat : ∀ h : Heap, h.get? d = some o → h.DictAt (mixKind X.prog X.w) d vs ep := fun h e => ⟨o, es, e, rest⟩
  have I2 := I1.freeze hd True.intro ho
  refine wpAny_pyIter_dict hS (hat _ ho) ?_
  refine ⟨s1.heap.objs.size, [s1.heap.objs.size], _, _, _, rfl, I2.kept (t' := s1.toks) fun b o e => Heap.get?_push_of_some _ e, turn_dict d _ o kvs vs ep rel.length rel hat, ⟨_, Heap.get?_push_size _ rfl, rfl, rfl⟩, fun b hb => I2.fp1 b hb, q o⟩

/-! ### enumerate(list), its pairs unpacked -/
/-- the i-th pair: a new tuple -/
def Ite (K : PySem.W.Frag) (a : Addr) : It :=
  ⟨fun i H => ∃ xs x, SqL K H a xs ∧ xs[i]? = some x, fun i H x H' => ∃ p y, H p = none ∧ H' = upd H p (.tup [.int i, y]) ∧ x = .ref p ∧ ∀ xs, SqL K H a xs → xs[i]? = some y, fun i H => ∃ xs, SqL K H a xs ∧ xs.length ≤ i⟩
theorem turn_enum {P : Program} {w : World} {K : PySem.W.Frag} {elts : List Expr} {x1} {tp : Pos} (a e it : Addr) (hei : e ≠ it) : Turn P w K (.Tuple elts x1 tp) (Ite K a) [e, it] e (fun i h => (∃ old, IsEnum h e it i old) ∧ h.IsListIter it a i) where
  mem := by simp
  obj := fun i h st b hb => by
    obtain ⟨⟨old, s1⟩, ⟨o, e2, c, d⟩⟩ := st
    rcases List.mem_cons.mp hb with rfl | hb
    · exact ⟨_, s1, fun v z => by
        have z' : Data.fields _ = Data.cell v := z
        cases z'⟩
    · have e' : b = it := by simpa using hb
      subst e'
      exact ⟨o, e2, fun v z => by rw [d] at z; cases z⟩
  keep := fun i h h' st k => ⟨let ⟨old, s1⟩ := st.1; ⟨old, k e (by simp) _ s1⟩, st.2.at fun o q => k it (by simp) o q⟩
  item := by
    intro X hP hw hK hc i pins s σ H E I hf st hg
    subst hP hw hK
    obtain ⟨xs, x, hq, hx⟩ := hg
    obtain ⟨its, rv, p, hz⟩ := I.list hq
    obtain ⟨u, hu, ru⟩ := rv.get hx
    obtain ⟨f0, f1, f2, f3, f4, f5⟩ := hf e (by simp)
    obtain ⟨g0, g1, g2, g3, g4, g5⟩ := hf it (by simp)
    obtain ⟨⟨old, s1⟩, s2⟩ := st
    have he : e < s.heap.objs.size := Heap.lt_size s1
    have hit : it < s.heap.objs.size := by obtain ⟨o, q, _⟩ := s2; exact Heap.lt_size q
    refine wpAny_pyNext_enum_item s1 s2 p.isList (x := u) (by simpa using hu) hei fun h1 heo hit1 ht1 hz1 hk1 => ?_
    refine ⟨_, rfl, wpAny_letOwnedTupleGo_enum heo fun h2 he2 hs2 => ?_⟩
    have hn : H s.heap.objs.size = none := I.hok.fresh (Nat.le_refl _)
    have keep : ∀ b o, b ≠ e → b ≠ it → s.heap.get? b = some o → h2.get? b = some o := fun b o h1' h2' q => (hs2.2 b h1').trans (hk1 b o h1' h2' q)
    have tup : h2.get? s.heap.objs.size = some { cls := .type "tuple", data := .seq #[.int i s.toks, u] } := (hs2.2 _ (ngt he)).trans ht1
    have I2 : Inv X pins σ (upd H s.heap.objs.size (.tup [.int i, x])) { s with heap := h2, toks := s.toks + 1 } := by
      have nitx : ∀ b v, H b = some v → b ≠ e ∧ b ≠ it := fun b v q => ⟨(fun z => by rw [z, f0] at q; cases q), (fun z => by rw [z, g0] at q; cases q)⟩
      refine I.step (g' := s.gens) (d' := s.drawn) (ch := [e, it]) (fun b hb => ?_) (fun b o _ _ hc' q _ => keep b o (fun z => hc' (by simp [z])) (fun z => hc' (by simp [z])) q) (fun b o _ _ hc' q _ => ⟨o.slots, keep b o (fun z => hc' (by simp [z])) (fun z => hc' (by simp [z])) q⟩)
        (fun b o _ q n => by rw [upd_ne (nlt (Heap.lt_size q))]; exact n) (fun b o hc' q => ⟨o, keep b o (fun z => hc' (by simp [z])) (fun z => hc' (by simp [z])) q⟩)
        (fun b xs q => by rw [upd_ne (ne_of_none q hn)]; exact q) (fun b o v q => by rw [upd_ne (ne_of_none q hn)]; exact q) (fun b ps q => ⟨#[], by rw [upd_ne (ne_of_none q hn), q]; simp⟩) (fun m hm => ?_) (fun b v q => ?_) I.bare
      · rcases List.mem_cons.mp hb with rfl | hb
        · exact ⟨f3, f1, f4, f5⟩
        · have e' : b = it := by simpa using hb
          subst e'
          exact ⟨g3, g1, g4, g5⟩
      · obtain ⟨o, es, ep, ho, r⟩ := hm
        exact ⟨o, es, ep, keep _ o (Ne.symm f1) (Ne.symm g1) ho, r⟩
      · by_cases hb : b = s.heap.objs.size
        · subst hb
          rw [upd_same] at q
          cases q
          exact ⟨(show 2 ≤ sizeLine by rw [sizeLine_eq]; decide), [.int i s.toks, u], .cons ⟨_, rfl⟩ (.cons ru .nil), ⟨_, tup, rfl, 0, rfl⟩, _, tup, rfl⟩
        · rw [upd_ne hb] at q
          refine (I.hok b v q).stay (fun c w' hc' q' => ?_) (fun c q' => by rw [upd_ne (ne_of_none q' hn)]; exact q') fun c xs q' => by rw [upd_ne (ne_of_none q' hn)]; exact q'
          rcases hc' with z | z
          · subst z; exact keep c w' (nitx c v q).1 (nitx c v q).2 q'
          · exact keep c w' (nitx c _ z).1 (nitx c _ z).2 q'
    refine ⟨.ref s.heap.objs.size, _, I2, rfl, ⟨_, x, hn, rfl, rfl, fun ys hy => by rw [I.list_inj hy hq]; exact hx⟩, ⟨⟨u, ?_⟩, ?_⟩, fun b hb => ?_⟩
    · have e1 : ((i + 1 : Nat) : Int) = (i : Int) + 1 := by omega
      rw [e1]
      exact he2
    · exact hit1.at fun o q => (hs2.2 _ (Ne.symm hei)).trans q
    · have hb' : b < s.heap.objs.size := by
        rcases List.mem_cons.mp hb with rfl | hb
        · exact he
        · have e' : b = it := by simpa using hb
          subst e'; exact hit
      rw [upd_ne (nlt hb')]
      exact (hf b hb).1
  done := by
    intro X hP hw hK hc i pins s σ H E I hf st hg
    subst hP hw hK
    obtain ⟨xs, hq, hx⟩ := hg
    obtain ⟨its, rv, p, hz⟩ := I.list hq
    obtain ⟨g0, g1, g2, g3, g4, g5⟩ := hf it (by simp)
    obtain ⟨⟨old, s1⟩, s2⟩ := st
    have hl := rv.length
    exact wpAny_pyNext_enum_end (I.ok.hd hc) s1 s2 p.isList (by simp; omega) fun h' eb => ⟨rfl, I.turned (t' := s.toks) (fun b o hb q => eb b o hb q) g0 g1 g3 g4 g5⟩
  self := fun A i s Q E st h => by
    obtain ⟨⟨old, s1⟩, s2⟩ := st
    have hT : s.TypeIs (.ref e) "enumerate" := ⟨_, s1, rfl⟩
    refine wpAny_pyIter_slot hT PySem.F.slot_enumerate_iter (wpAny_call_entry PySem.F.slot_enumerate_iter hT PySem.F.entry_enumerate_iter ?_ (PySem.F.args_enumerate_iter_1 _))
    show wpAny _ _ (ret (.ref e)) _ _ s
    exact wpAny_pure ⟨_, rfl, "enumerate", _, hT, PySem.F.slot_enumerate_next.lookup, h⟩
def iEnum (K : PySem.W.Frag) (ta : TA) : TI := fun σ H R => ta σ H fun vs H1 => ∃ a, vs = [.ref a] ∧ (∃ xs, SqL K H1 a xs) ∧ R (Ite K a) H1
theorem pi_enum {a : Expr} {ta : TA} {p pos : Pos} {elts : List Expr} {x1} {tp : Pos} (hg : Gl X "enumerate") (hm : X.mg "enumerate" = none) (ha : PA X [a] ta) (hs : starEach [a] X.env = [(false, eval a X.env)] := by rfl) : PI X (.Tuple elts x1 tp) (.Call (.Name "enumerate" p) [a] [] pos) (iEnum X.K ta) := by
  intro pins s σ H R I h
  refine Call_ (ld_blt I hg hm (u := .type "enumerate") (by decide +kernel) (PyProof.Rows.callWith_type1 (thn (ha pos pins s σ H _ I h) fun us s1 ⟨vs, H1, I1, r1, q1⟩ => ?_) hs rfl))
  obtain ⟨l, e, ⟨xs, hq⟩, q⟩ := q1
  subst e
  cases r1 with
  | cons r rr =>
    cases rr
    cases r
    obtain ⟨its, rv, p, hz⟩ := I1.list hq
    refine call_enumerate_list p.isList fun h' he hit hsz kp => ?_
    have I2 : Inv X pins σ H1 { s1 with heap := h' } := I1.kept (t' := s1.toks) kp
    have T : Turn X.prog X.w X.K (.Tuple elts x1 tp) (Ite X.K l) [s1.heap.objs.size + 1, s1.heap.objs.size] (s1.heap.objs.size + 1) (fun i h => (∃ old, IsEnum h (s1.heap.objs.size + 1) s1.heap.objs.size i old) ∧ h.IsListIter s1.heap.objs.size l i) := turn_enum l _ _ (nss' _)
    refine T.self X.A 0 { s1 with heap := h' } _ _ ⟨⟨_, he⟩, hit⟩ ?_
    refine ⟨s1.heap.objs.size + 1, _, _, _, H1, rfl, I2, T, ⟨⟨_, he⟩, hit⟩, fun b hb => ?_, q⟩
    have hb' : s1.heap.objs.size ≤ b := by
      rcases List.mem_cons.mp hb with rfl | hb
      · exact Nat.le_succ _
      · have e' : b = s1.heap.objs.size := by simpa using hb
        subst e'; exact Nat.le_refl _
    obtain ⟨f0, f1⟩ := I1.fpOk hb' (I1.hok.fresh hb')
    exact ⟨f0, f1⟩
end
end L2

set_option maxHeartbeats 4000000
namespace L2
open PySem PySem.Spec PyProof.Rows
section
variable {X : Cx}
/-- is, is not of two bools; anything is told apart from a bool that is none -/
theorem op_isB : OpR X (compareOp .Is) (fun x y H Q => ∃ b c, x = .bl b ∧ y = .bl c ∧ Q (.bl (b == c)) H) := by
  intro pins s σ H x y v u Q I rx ry h
  obtain ⟨b, c, rfl, rfl, q⟩ := h
  cases rx
  cases ry
  exact is_bool ⟨.bl _, H, I, rfl, q⟩
theorem op_isnotB : OpR X (compareOp .IsNot) (fun x y H Q => ∃ b c, x = .bl b ∧ y = .bl c ∧ Q (.bl (b != c)) H) := by
  intro pins s σ H x y v u Q I rx ry h
  obtain ⟨b, c, rfl, rfl, q⟩ := h
  cases rx
  cases ry
  exact isnot_bool ⟨.bl _, H, I, rfl, q⟩
/-- x <= y of two texts -/
theorem op_le_str : OpR X (compareOp .LtE) (fun x y H Q => ∃ i j, x = .str i ∧ y = .str j ∧ Q (.bl (!decide (j.cps.toList < i.cps.toList))) H) := by
  intro pins s σ H x y v u Q I rx ry h
  obtain ⟨i, j, rfl, rfl, q⟩ := h
  obtain ⟨t, rfl⟩ := rx
  obtain ⟨t', rfl⟩ := ry
  exact PySem.P.le_str (fin_bl I q rfl)
/-- x * n of a text -/
theorem op_mul_str : OpR X (binaryOp .Mult) (fun x y H Q => ∃ i n, x = .str i ∧ y = .int n ∧ i.length ≤ 1000 ∧ 0 ≤ n ∧ n ≤ 1000 ∧ Q (.str (Txt.mul i n)) H) := by
  intro pins s σ H x y v u Q I rx ry h
  obtain ⟨i, n, rfl, rfl, h1, h2, h3, q⟩ := h
  obtain ⟨t, rfl⟩ := rx
  obtain ⟨t', rfl⟩ := ry
  exact SB.mul (PyProof.Rows.mulOk_of 1000 1000 h1 (by omega) (by omega) (by decide) (by decide)) fun t' k => ⟨.str _, H, I.tok _, ⟨_, rfl⟩, q⟩
/-- all, any of a list of bools -/
theorem kept_of_iter {s : Shared} {h' : Heap} {o : Obj} (hk : ∀ b x, b ∉ [s.heap.objs.size] → (s.heap.push o).get? b = some x → h'.get? b = some x) (b : Addr) (x : Obj) (e : s.heap.get? b = some x) : h'.get? b = some x :=
  hk b x (fun z => by rw [List.mem_singleton.mp z] at e; exact Nat.lt_irrefl _ (Heap.lt_size e)) (Heap.get?_push_of_some _ e)
theorem bools_at : ∀ {bs : List Bool} {us : List Value}, Vals (bs.map V.bl) us → ∀ (i : Nat) (v : Value), us[i]? = some v → ∃ b, bs[i]? = some b ∧ v = .bool b
  | [], _, .nil, i, v, e => by simp at e
  | b :: bs, u :: us, .cons r t, 0, v, e => by
    have e' : u = v := by simpa using e
    subst e'
    exact ⟨b, rfl, r⟩
  | b :: bs, u :: us, .cons r t, i + 1, v, e => bools_at (bs := bs) t i v (by simpa using e)
theorem call_all (hc : X.calm = true) : CallR X (.builtin "all") (fun xs H Q => ∃ (a : Addr) (bs : List Bool), xs = [.ref a] ∧ SqL X.K H a (bs.map V.bl) ∧ Q (.bl (bs.all id)) H) := by
  intro pins s σ H xs us Q I r h
  obtain ⟨a, bs, rfl, hq, q⟩ := h
  obtain ⟨u, rfl, ru⟩ := vals1 r
  cases ru
  obtain ⟨its, rv, p, hz⟩ := I.list hq
  have hl := p.isList
  have hlt : a < s.heap.objs.size := by obtain ⟨_, e, _⟩ := hl; exact Heap.lt_size e
  refine call_all_walk (wpAny_pyIter_list hl ?_)
  refine ⟨s.heap.objs.size, [s.heap.objs.size, a], [s.heap.objs.size], its.toArray.size, _, _, fun i => (bs[i]?).getD true, rfl, Walks.list (A := X.A.in1) (I.ok.hd hc) _ a (Nat.ne_of_lt hlt) its.toArray,
    ⟨⟨_, Heap.get?_push_size _ rfl, rfl, rfl⟩, hl.push _⟩, fun i v s' Q' E' hP hQ => ?_, fun h' tk hk => ?_⟩
  · obtain ⟨b, e, rfl⟩ := bools_at rv i v (by simpa using hP)
    simp only [e, Option.getD_some] at hQ
    exact wpAny_truthy_bool hQ
  · have hlen := rv.length
    have e : ((List.range its.toArray.size).all fun i => (bs[i]?).getD true) = bs.all id := by
      rw [List.size_toArray, ← hlen, List.length_map, Bool.eq_iff_iff, List.all_eq_true, List.all_eq_true]
      constructor
      · intro z b hb
        obtain ⟨i, hi, rfl⟩ := List.getElem_of_mem hb
        have := z i (List.mem_range.mpr hi)
        simpa [hi] using this
      · intro z i hi
        have hi' := List.mem_range.mp hi
        rw [List.getElem?_eq_getElem hi']
        exact z _ (List.getElem_mem hi')
    rw [e]
    exact ⟨.bl _, H, I.kept (kept_of_iter hk), rfl, q⟩
theorem call_any (hc : X.calm = true) : CallR X (.builtin "any") (fun xs H Q => ∃ (a : Addr) (bs : List Bool), xs = [.ref a] ∧ SqL X.K H a (bs.map V.bl) ∧ Q (.bl (bs.any id)) H) := by
  intro pins s σ H xs us Q I r h
  obtain ⟨a, bs, rfl, hq, q⟩ := h
  obtain ⟨u, rfl, ru⟩ := vals1 r
  cases ru
  obtain ⟨its, rv, p, hz⟩ := I.list hq
  have hl := p.isList
  have hlt : a < s.heap.objs.size := by obtain ⟨_, e, _⟩ := hl; exact Heap.lt_size e
  refine call_any_walk (wpAny_pyIter_list hl ?_)
  refine ⟨s.heap.objs.size, [s.heap.objs.size, a], [s.heap.objs.size], its.toArray.size, _, _, fun i => (bs[i]?).getD false, rfl, Walks.list (A := X.A.in1) (I.ok.hd hc) _ a (Nat.ne_of_lt hlt) its.toArray,
    ⟨⟨_, Heap.get?_push_size _ rfl, rfl, rfl⟩, hl.push _⟩, fun i v s' Q' E' hP hQ => ?_, fun h' tk hk => ?_⟩
  · obtain ⟨b, e, rfl⟩ := bools_at rv i v (by simpa using hP)
    simp only [e, Option.getD_some] at hQ
    exact wpAny_truthy_bool hQ
  · have hlen := rv.length
    have e : ((List.range its.toArray.size).any fun i => (bs[i]?).getD false) = bs.any id := by
      rw [List.size_toArray, ← hlen, List.length_map, Bool.eq_iff_iff, List.any_eq_true, List.any_eq_true]
      constructor
      · rintro ⟨i, hi, z⟩
        have hi' := List.mem_range.mp hi
        rw [List.getElem?_eq_getElem hi'] at z
        exact ⟨_, List.getElem_mem hi', z⟩
      · rintro ⟨b, hb, z⟩
        obtain ⟨i, hi, rfl⟩ := List.getElem_of_mem hb
        exact ⟨i, List.mem_range.mpr hi, by rw [List.getElem?_eq_getElem hi]; exact z⟩
    rw [e]
    exact ⟨.bl _, H, I.kept (kept_of_iter hk), rfl, q⟩
/-- isinstance(x, T), T a built-in type -/
theorem call_isi : CallR X (.builtin "isinstance") (fun xs H Q => ∃ x t n b, xs = [x, .ty n] ∧ TyOf X.K H x t ∧ PySem.W.kitOne X.K t (.type n) = some b ∧ Q (.bl b) H) := by
  intro pins s σ H xs us Q I r h
  obtain ⟨x, t, n, b, rfl, ty, e, q⟩ := h
  obtain ⟨u, w', rfl, rx, rn⟩ := vals2 r
  cases rn
  exact isinst_ok I rx ty e fun tk => ⟨.bl b, H, I.tok tk, rfl, q⟩
/-- sep.join(list of texts) -/
theorem strs_of : ∀ {ys : List Str} {us : List Value}, Vals (ys.map V.str) us → StrsAre us ys
  | [], _, .nil => .nil
  | y :: ys, u :: us, .cons r t => by
    obtain ⟨k, rfl⟩ := r
    exact .cons y k (strs_of t)
theorem mt_join : MtR X "str.join" (fun x xs H Q => ∃ (z : Str) (a : Addr) (ys : List Str), x = .str z ∧ xs = [.ref a] ∧ SqL X.K H a (ys.map V.str) ∧ (ys.map (·.length)).sum + ys.length * z.length ≤ 16777216 ∧ Q (.str (Txt.join z ys)) H) := by
  intro pins s σ H x xs v us Q I rx r h
  obtain ⟨z, a, ys, rfl, rfl, hq, hz, q⟩ := h
  obtain ⟨t, rfl⟩ := rx
  obtain ⟨u, rfl, ru⟩ := vals1 r
  cases ru
  obtain ⟨its, rv, p, _⟩ := I.list hq
  exact join_list p.isList (by simpa using strs_of rv) hz fun t' k => ⟨.str _, H, I.tok _, ⟨_, rfl⟩, q⟩
/-- z[lo:hi] of a text -/
theorem sl_str : SlR X (fun x lo hi H Q => ∃ z, x = .str z ∧ z.length ≤ sizeLine ∧ Q (.str (Txt.slice z lo hi)) H) := by
  intro pins s σ H x v vl vu lo hi sl Q I rx hs pl pu h
  obtain ⟨z, rfl, hz, q⟩ := h
  obtain ⟨t, rfl⟩ := rx
  refine ⟨"str", _, slot_str_getitem.lookup, typeIs_str _ _ _, ?_⟩
  have fin : (Txt.slice z lo hi).length ≤ sizeLine ∧ ∀ t' k, EP X pins σ Q (.str (Txt.slice z lo hi) t') { s with toks := k } := ⟨Nat.le_trans (Txt.slice_le z _ _) hz, fun t' k => ⟨.str _, H, I.tok _, ⟨_, rfl⟩, q⟩⟩
  cases pl with
  | none =>
    cases pu with
    | none => exact wpAny_getItem_str_slice (l := none) (u := none) (st := none) hs rfl (post_val_or_str fin)
    | int j uj => exact wpAny_getItem_str_slice (l := none) (u := some (j, uj)) (st := none) hs rfl (post_val_or_str fin)
  | int i ui =>
    cases pu with
    | none => exact wpAny_getItem_str_slice (l := some (i, ui)) (u := none) (st := none) hs rfl (post_val_or_str fin)
    | int j uj => exact wpAny_getItem_str_slice (l := some (i, ui)) (u := some (j, uj)) (st := none) hs rfl (post_val_or_str fin)
end
end L2

set_option maxHeartbeats 4000000
namespace L2
open PySem PySem.Spec PyProof.Rows PySem.W

/-! ### sorted: what the questions of a small sort come to, keys that differ -/
section
variable {cmp : Nat → Nat → (Bool → Shared → Prop) → Shared → Prop} {lt : Nat → Nat → Bool} {n : Nat} {s : Shared}
/-- places answer by a strict order, nothing is changed -/
structure Ord (cmp : Nat → Nat → (Bool → Shared → Prop) → Shared → Prop) (lt : Nat → Nat → Bool) (n : Nat) (s : Shared) : Prop where
  ask : ∀ i j C, i < n → j < n → i ≠ j → C (lt i j) s → cmp i j C s
  tr : ∀ i j k, lt i j = true → lt j k = true → lt i k = true
  tot : ∀ i j, i < n → j < n → i ≠ j → lt i j = false → lt j i = true
  asym : ∀ i j, lt i j = true → lt j i = false
/-- a rearrangement of 0 .. n - 1 -/
structure Re (n : Nat) (p : Array Nat) : Prop where
  size : p.size = n
  lt : ∀ i, i < n → p.getD i 0 < n
  inj : ∀ i j, i < n → j < n → i ≠ j → p.getD i 0 ≠ p.getD j 0
  perm : p.Perm (List.toArray (List.range n))
theorem Re.of_perm {p : Array Nat} (h : p.Perm (List.toArray (List.range n))) : Re n p := by
  have hs : p.size = n := by have := h.size_eq; simpa using this
  have hl : p.toList.Perm (List.range n) := by simpa using Array.perm_iff_toList_perm.mp h
  have nd : p.toList.Nodup := (List.Perm.nodup_iff hl).mpr List.nodup_range
  have get : ∀ i, (hi : i < n) → p.getD i 0 = p.toList[i]'(by simpa [hs] using hi) := fun i hi => by
    simp [Array.getD, hs, hi]
  refine ⟨hs, fun i hi => ?_, fun i j hi hj hij e => ?_, h⟩
  · have hm : p.getD i 0 ∈ p.toList := by rw [get i hi]; exact List.getElem_mem _
    exact List.mem_range.mp ((List.Perm.mem_iff hl).mp hm)
  · rw [get i hi, get j hj] at e
    exact hij ((List.getElem_inj nd).mp e)
def Up (lt : Nat → Nat → Bool) (p : Array Nat) (m : Nat) : Prop := ∀ i j, i < j → j < m → lt (p.getD i 0) (p.getD j 0) = true
def Dn (lt : Nat → Nat → Bool) (p : Array Nat) (m : Nat) : Prop := ∀ i j, i < j → j < m → lt (p.getD j 0) (p.getD i 0) = true
theorem Up.next {p : Array Nat} {m : Nat} (O : Ord cmp lt n s) (h : Up lt p m) (h1 : 1 ≤ m) (hq : lt (p.getD (m - 1) 0) (p.getD m 0) = true) : Up lt p (m + 1) := fun i j hij hj => by
  by_cases e : j = m
  · subst e
    by_cases e2 : i = j - 1
    · subst e2; exact hq
    · exact O.tr _ _ _ (h i (j - 1) (by omega) (by omega)) hq
  · exact h i j hij (by omega)
theorem Dn.next {p : Array Nat} {m : Nat} (O : Ord cmp lt n s) (h : Dn lt p m) (h1 : 1 ≤ m) (hq : lt (p.getD m 0) (p.getD (m - 1) 0) = true) : Dn lt p (m + 1) := fun i j hij hj => by
  by_cases e : j = m
  · subst e
    by_cases e2 : i = j - 1
    · subst e2; exact hq
    · exact O.tr _ _ _ hq (h i (j - 1) (by omega) (by omega))
  · exact h i j hij (by omega)
theorem asc_ok {p : Array Nat} {Q : Nat → Shared → Prop} (O : Ord cmp lt n s) (r : Re n p) : ∀ (f m : Nat), 1 ≤ m → m + f ≤ n → Up lt p m → (∀ m', m ≤ m' → m' ≤ m + f → Up lt p m' → (m' = m + f ∨ lt (p.getD m' 0) (p.getD (m' - 1) 0) = true) → Q m' s) → (kas_asc p f m).kasWp cmp Q s
  | 0, m, h1, hm, u, q => q m (Nat.le_refl _) (Nat.le_refl _) u (.inl rfl)
  | f + 1, m, h1, hm, u, q => by
    show cmp _ _ _ s
    refine O.ask _ _ _ (r.lt m (by omega)) (r.lt (m - 1) (by omega)) (r.inj _ _ (by omega) (by omega) (by omega)) ?_
    cases c : lt (p.getD m 0) (p.getD (m - 1) 0) with
    | true =>
      show (KasT.ret m).kasWp cmp Q s
      exact q m (Nat.le_refl _) (by omega) u (.inr c)
    | false =>
      show (kas_asc p f (m + 1)).kasWp cmp Q s
      have hq := O.tot _ _ (r.lt m (by omega)) (r.lt (m - 1) (by omega)) (r.inj _ _ (by omega) (by omega) (by omega)) c
      refine asc_ok O r f (m + 1) (by omega) (by omega) (u.next O h1 hq) fun m' a b c d => q m' (by omega) (by omega) c ?_
      rcases d with d | d
      · exact .inl (by omega)
      · exact .inr d
theorem desc_ok {p : Array Nat} {Q : Array Nat × Nat × Nat → Shared → Prop} (O : Ord cmp lt n s) (r : Re n p) : ∀ (f m : Nat), 1 ≤ m → m + f ≤ n → Dn lt p m → (∀ m', m ≤ m' → m' ≤ m + f → Dn lt p m' → Q (p, m', 0) s) → (kas_desc f p m 0).kasWp cmp Q s
  | 0, m, h1, hm, u, q => q m (Nat.le_refl _) (Nat.le_refl _) u
  | f + 1, m, h1, hm, u, q => by
    show cmp _ _ _ s
    refine O.ask _ _ _ (r.lt m (by omega)) (r.lt (m - 1) (by omega)) (r.inj _ _ (by omega) (by omega) (by omega)) ?_
    cases c : lt (p.getD m 0) (p.getD (m - 1) 0) with
    | true =>
      show (kas_desc f p (m + 1) 0).kasWp cmp Q s
      exact desc_ok O r f (m + 1) (by omega) (by omega) (u.next O h1 c) fun m' a b c => q m' (by omega) (by omega) c
    | false =>
      show cmp _ _ _ s
      refine O.ask _ _ _ (r.lt (m - 1) (by omega)) (r.lt m (by omega)) (r.inj _ _ (by omega) (by omega) (by omega)) ?_
      rw [O.tot _ _ (r.lt m (by omega)) (r.lt (m - 1) (by omega)) (r.inj _ _ (by omega) (by omega) (by omega)) c]
      show (KasT.ret (p, m, 0)).kasWp cmp Q s
      exact q m (Nat.le_refl _) (by omega) u
theorem rev_get {p : Array Nat} {m k : Nat} (hm : m ≤ p.size) : (kas_rev p 0 m).getD k 0 = if k < m then p.getD (m - 1 - k) 0 else p.getD k 0 := by
  have h := getElem?_mirror_all (xs := p) (i := 0) (j := m) hm k
  have e1 : ∀ (a : Array Nat) (i : Nat), a.getD i 0 = (a[i]?).getD 0 := fun a i => by rw [Array.getD_eq_getD_getElem?]
  rw [e1]
  unfold kas_rev
  rw [h]
  by_cases hk : k < m
  · rw [if_pos hk]
    simp only [e1]
    rw [if_pos (by omega)]
    congr 2
    omega
  · rw [if_neg hk]
    simp only [e1]
    rw [if_neg (by omega)]
theorem rev_re {p : Array Nat} {m : Nat} (r : Re n p) : Re n (kas_rev p 0 m) := Re.of_perm ((mirror_perm p 0 m _).trans r.perm)
theorem count_ok {Q : Nat × Array Nat → Shared → Prop} {p : Array Nat} (O : Ord cmp lt n s) (r : Re n p) (h2 : 2 ≤ n) (q : ∀ m p', Re n p' → 1 ≤ m → m ≤ n → Up lt p' m → Q (m, p') s) : (kas_count n p).kasWp cmp Q s := by
  unfold kas_count
  rw [KasT.kasWp_bind]
  refine asc_ok O r (n - 1) 1 (Nat.le_refl _) (by omega) (fun i j h1 h2 => by omega) fun m a b u e => ?_
  by_cases hm : (m == n) = true
  · rw [if_pos hm]
    exact q m p r a (by omega) u
  · rw [if_neg hm]
    have hmn : m ≠ n := by simpa using hm
    by_cases h1 : m > 1
    · rw [if_pos h1]
      show cmp _ _ _ s
      refine O.ask _ _ _ (r.lt 0 (by omega)) (r.lt (m - 1) (by omega)) (r.inj _ _ (by omega) (by omega) (by omega)) ?_
      rw [u 0 (m - 1) (by omega) (by omega)]
      show (KasT.ret (m, p)).kasWp cmp Q s
      exact q m p r a (by omega) u
    · rw [if_neg h1]
      have e1 : m = 1 := by omega
      subst e1
      have hd : lt (p.getD 1 0) (p.getD 0 0) = true := by
        rcases e with e | e
        · omega
        · exact e
      unfold kas_descPart
      rw [KasT.kasWp_bind]
      refine desc_ok O r (n - (1 + 1)) (1 + 1) (by omega) (by omega) (fun i j h1 h2 => ?_) fun m' a' b' dn => ?_
      · have : i = 0 := by omega
        have : j = 1 := by omega
        subst_vars
        exact hd
      · show (if (0 : Nat) > 0 then _ else kas_tail3 m' n p).kasWp cmp Q s
        rw [if_neg (by omega)]
        unfold kas_tail3
        rw [KasT.kasWp_bind]
        have up : Up lt (kas_rev p 0 m') m' := fun i j hij hj => by
          rw [rev_get (by rw [r.size]; omega), rev_get (by rw [r.size]; omega), if_pos (by omega), if_pos (by omega)]
          exact dn _ _ (by omega) (by omega)
        refine asc_ok O (rev_re r) (n - m') m' (by omega) (by omega) up fun m2 a2 b2 u2 _ => ?_
        exact q m2 _ (rev_re r) (by omega) (by omega) u2
/-- the place of the k-th among those ahead -/
theorem place_ok {p : Array Nat} {k : Nat} {Q : Nat → Shared → Prop} (O : Ord cmp lt n s) (r : Re n p) (hk : k < n) (u : Up lt p k) (q : ∀ l, l ≤ k → (∀ i, i < l → lt (p.getD i 0) (p.getD k 0) = true) → (∀ i, l ≤ i → i < k → lt (p.getD k 0) (p.getD i 0) = true) → Q l s) :
    ∀ (f l e : Nat), l ≤ e → e ≤ k → e - l ≤ f → (∀ i, i < l → lt (p.getD i 0) (p.getD k 0) = true) → (∀ i, e ≤ i → i < k → lt (p.getD k 0) (p.getD i 0) = true) → (kas_place p k f l e).kasWp cmp Q s
  | 0, l, e, h1, h2, h3, a, b => q l (by omega) a fun i hi hk' => b i (by omega) hk'
  | f + 1, l, e, h1, h2, h3, a, b => by
    show (if l ≥ e then KasT.ret l else _).kasWp cmp Q s
    by_cases h : l ≥ e
    · rw [if_pos h]
      exact q l (by omega) a fun i hi hk' => b i (by omega) hk'
    · rw [if_neg h]
      show cmp _ _ _ s
      have hm : (l + e) / 2 < k := by omega
      refine O.ask _ _ _ (r.lt k hk) (r.lt _ (by omega)) (r.inj _ _ hk (by omega) (by omega)) ?_
      cases c : lt (p.getD k 0) (p.getD ((l + e) / 2) 0) with
      | true =>
        show (kas_place p k f l ((l + e) / 2)).kasWp cmp Q s
        refine place_ok O r hk u q f l _ (by omega) (by omega) (by omega) a fun i hi hk' => ?_
        by_cases ei : i = (l + e) / 2
        · subst ei; exact c
        · exact O.tr _ _ _ c (u _ i (by omega) hk')
      | false =>
        show (kas_place p k f ((l + e) / 2 + 1) e).kasWp cmp Q s
        have c' := O.tot _ _ (r.lt k hk) (r.lt _ (by omega)) (r.inj _ _ hk (by omega) (by omega)) c
        refine place_ok O r hk u q f _ e (by omega) h2 (by omega) (fun i hi => ?_) b
        by_cases ei : i = (l + e) / 2
        · subst ei; exact c'
        · exact O.tr _ _ _ (u i _ (by omega) hm) c'
theorem bub_get {p : Array Nat} {k d j : Nat} (hk : k < p.size) (hd : d ≤ k) : (bubble p k d).getD j 0 = if j < k - d ∨ k < j then p.getD j 0 else if j = k - d then p.getD k 0 else p.getD (j - 1) 0 := by
  have e1 : ∀ (a : Array Nat) (i : Nat), a.getD i 0 = (a[i]?).getD 0 := fun a i => by rw [Array.getD_eq_getD_getElem?]
  have h := getElem?_bubble (xs := p) (src := k) hk d hd j
  rw [e1, h]
  by_cases a : j = k - d
  · rw [if_pos a, if_neg (by omega), if_pos a, e1]
  · rw [if_neg a]
    by_cases b : k - d < j ∧ j ≤ k
    · rw [if_pos b, if_neg (by omega), if_neg a, e1]
    · rw [if_neg b, if_pos (by omega), e1]
theorem bin_ok {Q : Array Nat → Shared → Prop} (O : Ord cmp lt n s) (q : ∀ p, Re n p → Up lt p n → Q p s) : ∀ (f k : Nat) (p : Array Nat), Re n p → 1 ≤ k → k + f = n → Up lt p k → (kas_bin f p k).kasWp cmp Q s
  | 0, k, p, r, h1, hn, u => q p r (by rw [← hn]; exact u)
  | f + 1, k, p, r, h1, hn, u => by
    show ((kas_place p k k 0 k).bind fun l => kas_bin f (bubble p k (k - l)) (k + 1)).kasWp cmp Q s
    rw [KasT.kasWp_bind]
    refine place_ok O r (by omega) u (fun l hl a b => ?_) k 0 k (Nat.zero_le _) (Nat.le_refl _) (by omega) (fun i hi => by omega) (fun i h1 h2 => by omega)
    have hks : k < p.size := by rw [r.size]; omega
    refine bin_ok O q f (k + 1) _ (Re.of_perm ((bubble_perm p k _).trans r.perm)) (by omega) (by omega) fun i j hij hj => ?_
    rw [bub_get hks (by omega), bub_get hks (by omega)]
    have ek : k - (k - l) = l := by omega
    rw [ek]
    by_cases hi : i < l
    · rw [if_pos (.inl hi)]
      by_cases hj2 : j < l
      · rw [if_pos (.inl hj2)]; exact u i j hij (by omega)
      · rw [if_neg (by omega)]
        by_cases hj3 : j = l
        · rw [if_pos hj3]; exact a i hi
        · rw [if_neg hj3]; exact u i (j - 1) (by omega) (by omega)
    · rw [if_neg (by omega)]
      by_cases hi2 : i = l
      · rw [if_pos hi2, if_neg (by omega), if_neg (by omega)]
        exact b (j - 1) (by omega) (by omega)
      · rw [if_neg hi2, if_neg (by omega), if_neg (by omega)]
        exact u (i - 1) (j - 1) (by omega) (by omega)
theorem sort_ok {Q : Array Nat → Shared → Prop} (O : Ord cmp lt n s) (h2 : 2 ≤ n) (q : ∀ p, Re n p → Up lt p n → Q p s) : (kas_sort n).kasWp cmp Q s := by
  unfold kas_sort
  rw [KasT.kasWp_bind]
  refine count_ok O (Re.of_perm (Array.Perm.refl _)) h2 fun m p r h1 hm u => ?_
  show (if m < n then kas_bin (n - max m 1) p (max m 1) else .ret p).kasWp cmp Q s
  have em : max m 1 = m := by omega
  rw [em]
  by_cases h : m < n
  · rw [if_pos h]
    exact bin_ok O q (n - m) m p r h1 (by omega) u
  · rw [if_neg h]
    have : m = n := by omega
    subst this
    exact q p r u
end
end L2

set_option maxHeartbeats 4000000
namespace L2
open PySem PySem.Spec PyProof.Rows PySem.W

/-! ### sorted of a list of none or one -/
theorem list_sort_few {prog : Program} {w : World} {A : Around} {E : Value → Shared → Prop} {st : Shared} {l : Addr} {us : List Value} {ep : Nat} {R : PySem.Fin → Shared → Prop} (at0 : st.heap.get? l = some (seqObj "list" us.toArray ep)) (few : us.length < 2)
    (fin : ∀ hp ep', (∀ b o, b ≠ l → st.heap.get? b = some o → hp.get? b = some o) → hp.get? l = some (seqObj "list" us.toArray ep') → R (.done (.ret .none)) { st with heap := hp }) :
    wpAny (model prog w) A (Builtin.«list.sort» ⟨[.ref l], []⟩) R E st := by
  have sz : us.toArray.size = us.length := by simp
  have lt0 : l < st.heap.objs.size := Heap.lt_size at0
  have line : us.length ≤ sizeLine := by rw [sizeLine_eq]; omega
  rw [list_sort_plain]
  refine wpAny_bind (listItems_at at0 rfl (wpAny_bind (listUpdate_at at0 rfl ?_ (by rw [sz]; exact line) (Nat.zero_le _))))
  have at1 := get?_update_seq at0 (fun _ => (#[] : Array Value))
  refine wpAny_bind (seqEpoch_at at1 rfl (wpAny_bind (wpAny_newTuple ?_ (by show us.length ≤ _; exact line))))
  refine wpAny_bind (wpAny_newList ?_ (Nat.zero_le _))
  refine wpAny_holding ?_
  rw [if_pos (by rw [sz]; exact few), if_pos (by rw [sz]; exact few)]
  show wpAny (model prog w) A _ R E { st with heap := ((st.heap.update l (Obj.mapSeq fun _ => (#[] : Array Value))).push (seqObj "tuple" us.toArray 0)).push (seqObj "list" #[] 0) }
  have at2 : (((st.heap.update l (Obj.mapSeq fun _ => (#[] : Array Value))).push (seqObj "tuple" us.toArray 0)).push (seqObj "list" #[] 0)).get? l = some (seqObj "list" #[] (if ((#[] : Array Value).size == us.toArray.size) = true then ep else ep + 1)) := by
    rw [Heap.get?_push_ne _ _ _ (by rw [size_push', Heap.size_update]; exact nlt1 lt0), Heap.get?_push_ne _ _ _ (by rw [Heap.size_update]; exact nlt lt0)]
    exact at1
  have all : (arrOf (SortSt.mk' general' (us.toArray.zip us.toArray) #[] 7 none)).map (·.2) = us.toArray := by
    show (us.toArray.zip us.toArray).map (·.2) = us.toArray
    apply Array.ext'
    simp [List.map_snd_zip]
  have at3 := get?_update_seq at2 (fun _ => us.toArray)
  refine wpAny_bind (wpAny_pure ?_)
  dsimp only
  rw [StateT.run_pure]
  refine wpAny_bind (wpAny_pure ?_)
  dsimp only
  refine wpAny_bind (seqEpoch_at at2 rfl ?_)
  refine wpAny_bind (listUpdate_at at2 rfl ?_ (Nat.zero_le _) (by rw [all, sz]; omega))
  simp only [bne_self_eq_false, Bool.false_eq_true, if_false]
  rw [all]
  refine wpAny_pure (fin _ _ (fun b o hb e => ?_) at3)
  rw [Heap.get?_update_ne _ _ _ _ hb, Heap.get?_push_ne _ _ _ (by rw [size_push', Heap.size_update]; exact nlt1 (Heap.lt_size e)), Heap.get?_push_ne _ _ _ (by rw [Heap.size_update]; exact nlt (Heap.lt_size e)), Heap.get?_update_ne _ _ _ _ hb]
  exact e
theorem sorted_few {prog : Program} {w : World} {A : Around} {E : Value → Shared → Prop} {st : Shared} {l : Addr} {us : List Value} {Q : Value → Shared → Prop} (at0 : st.heap.IsList l us.toArray) (few : us.length < 2)
    (fin : ∀ hp ep, (∀ b o, st.heap.get? b = some o → hp.get? b = some o) → hp.get? (st.heap.objs.size + 1) = some (seqObj "list" us.toArray ep) → Q (.ref (st.heap.objs.size + 1)) { st with heap := hp }) :
    wpAny (model prog w) A (call (.builtin "sorted") [.ref l]) Q E st := by
  have line : us.length ≤ sizeLine := by rw [sizeLine_eq]; omega
  refine Calls.call_function_entry kind_sorted plain_sorted entry_sorted (args_sorted1 _) ?_
  unfold Builtin.«sorted»
  refine wpAny_bind (m := checkCount "sorted" 1 1 _) (wpAny_pure (wpAny_bind (collect_list at0 ?_ line)))
  refine wpAny_bind (wpAny_newList ?_ line)
  have z1 : ((st.heap.push (seqObj "list" #[] 0)).update st.heap.objs.size (Obj.mapSeq (· ++ us.toArray))).objs.size = st.heap.objs.size + 1 := by
    rw [Heap.size_update, size_push']
  have at1 : (((st.heap.push (seqObj "list" #[] 0)).update st.heap.objs.size (Obj.mapSeq (· ++ us.toArray))).push (seqObj "list" us.toArray 0)).get? (st.heap.objs.size + 1) = some (seqObj "list" us.toArray 0) := by
    rw [← z1]; exact Heap.get?_push_size _ rfl
  have kp : ∀ b o, st.heap.get? b = some o → (((st.heap.push (seqObj "list" #[] 0)).update st.heap.objs.size (Obj.mapSeq (· ++ us.toArray))).push (seqObj "list" us.toArray 0)).get? b = some o := fun b o e => by
    rw [Heap.get?_push_ne _ _ _ (by rw [z1]; exact nlt1 (Heap.lt_size e)), Heap.get?_update_ne _ _ _ _ (nlt (Heap.lt_size e)), Heap.get?_push_ne _ _ _ (nlt (Heap.lt_size e))]
    exact e
  show wpAny _ _ _ _ _ { st with heap := ((st.heap.push (seqObj "list" #[] 0)).update st.heap.objs.size (Obj.mapSeq (· ++ us.toArray))).push (seqObj "list" us.toArray 0) }
  rw [z1]
  refine wpAny_bind (wpAny_holding (wpAny_call_entry slot_list_sort ⟨_, at1, rfl⟩ entry_list_sort (list_sort_few (st := { st with heap := ((st.heap.push (seqObj "list" #[] 0)).update st.heap.objs.size (Obj.mapSeq (· ++ us.toArray))).push (seqObj "list" us.toArray 0) }) at1 few fun hp ep k2 e2 => ⟨_, rfl, ?_⟩) (args_list_sort _)))
  exact wpAny_pure ⟨_, rfl, fin hp ep (fun b o e => k2 b o (nlt1 (Heap.lt_size e)) (kp b o e)) e2⟩
end L2

set_option maxHeartbeats 400000
namespace L2
open PySem PySem.Spec PyProof.Rows PySem.W

theorem ns_one {h : Heap} {a : Addr} {m m' : Str → Option Value} (x : h.Ns a m) (y : h.Ns a m') : m = m' := by
  obtain ⟨o, es, ep, e, d, _, f⟩ := x
  obtain ⟨o', es', ep', e', d', _, f'⟩ := y
  rw [e] at e'
  cases e'
  rw [d] at d'
  cases d'
  funext z
  rw [← f z, f' z]
theorem lst_tot {a b : List Nat} (h : ¬ a < b) (h2 : a ≠ b) : b < a := by
  by_cases h3 : b < a
  · exact h3
  · exact absurd (List.le_antisymm (List.not_lt.mp h3) (List.not_lt.mp h)) h2
theorem str_ext {a b : Str} (h : a.cps.toList = b.cps.toList) : a = b := by
  cases a
  cases b
  congr 1
  exact Array.ext' h
theorem ObjOk.live {P : Program} {w : World} {H : Hp} {h : Heap} {a : Addr} {o : HO} (x : ObjOk P w H h a o) : ∃ ob, h.get? a = some ob := by
  cases o with
  | lst xs => obtain ⟨_, _, _, _, e⟩ := x; exact ⟨_, e⟩
  | tup xs => obtain ⟨_, _, _, ⟨ob, e, _⟩, _⟩ := x; exact ⟨_, e⟩
  | dK kvs => obtain ⟨_, _, _, _, ob, _, _, e, _⟩ := x; exact ⟨_, e⟩
  | dT kvs => obtain ⟨_, _, _, _, ob, _, _, e, _⟩ := x; exact ⟨_, e⟩
  | set S n => obtain ⟨ob, _, _, _, e, _⟩ := x; exact ⟨_, e⟩
  | ins C dx fs => obtain ⟨_, _, _, e, _⟩ := x; exact ⟨_, e⟩
  | own y => obtain ⟨_, e⟩ := x; exact ⟨_, e⟩
  | xd fs => obtain ⟨_, ⟨_, _, _, e, _⟩, _⟩ := x; exact ⟨_, e⟩
  | rng lo hi => obtain ⟨_, _, _, e⟩ := x; exact ⟨_, e⟩
  | frz ob u => obtain ⟨e, _⟩ := x; exact ⟨_, e⟩
  | tbl ps => exact ⟨_, (show h.get? a = some _ from x)⟩
  | met f y => exact ⟨_, (show h.get? a = some _ from x)⟩
  | ext φ => obtain ⟨_, ⟨_, e⟩, _⟩ := x; exact ⟨_, e⟩
section
variable {X : Cx} {pins : List (Addr × Obj)} {σ : St} {H : Hp} {s : Shared}
/-- behind a rule of the ledger: all is kept, a new list is tracked -/
theorem Inv.newList {D : Addr} {ys : List V} {its : List Value} {c : Nat} {h' : Heap} {m : Str → Option Value} (I : Inv X pins σ H s) (hm : s.heap.Ns X.env.locals m) (hn : H D = none) (hG : s.heap.get? D = none) (rv : Vals ys its) (hz : ys.length ≤ sizeLine)
    (F : h'.Ns X.env.locals m) (k : ∀ b o, b ≠ X.env.locals → s.heap.get? b = some o → h'.get? b = some o) (e : h'.get? D = some { cls := .type "list", data := .seq its.toArray c }) : Inv X pins σ (upd H D (.lst ys)) { s with heap := h' } := by
  have nl : ∀ b v, H b = some v → b ≠ X.env.locals := fun b v q z => by rw [z, I.free] at q; cases q
  refine I.step (g' := s.gens) (d' := s.drawn) (t' := s.toks) (ch := []) (fun b hb => by cases hb) (fun b o hL _ _ q _ => k b o hL q) (fun b o hL _ _ q _ => ⟨o.slots, k b o hL q⟩) (fun b o _ q n => ?_) (fun b o _ q => ?_)
    (fun b xs q => by rw [upd_ne (ne_of_none q hn)]; exact q) (fun b o v q => by rw [upd_ne (ne_of_none q hn)]; exact q) (fun b ps q => ⟨#[], by rw [upd_ne (ne_of_none q hn), q]; simp⟩) (fun m' hm' => by rw [ns_one hm' hm]; exact F) (fun b v q => ?_) I.bare
  · rw [upd_ne (fun z => by rw [z, hG] at q; cases q)]; exact n
  · by_cases hb : b = X.env.locals
    · subst hb
      obtain ⟨o', _, _, q', _⟩ := F
      exact ⟨o', q'⟩
    · exact ⟨o, k b o hb q⟩
  · by_cases hb : b = D
    · subst hb
      rw [upd_same] at q
      cases q
      exact ⟨hz, its, c, rv, e⟩
    · rw [upd_ne hb] at q
      refine (I.hok b v q).stay (fun c w' hc q' => ?_) (fun c q' => by rw [upd_ne (ne_of_none q' hn)]; exact q') fun c xs q' => by rw [upd_ne (ne_of_none q' hn)]; exact q'
      rcases hc with z | z
      · subst z; exact k c w' (nl c v q) q'
      · exact k c w' (nl c _ z) q'
/-- a key (a text) and its tuple -/
abbrev TK := Addr × Str × List V
def tkLt (p q : TK) : Prop := p.2.1.cps.toList < q.2.1.cps.toList
theorem refs_of (ps : List TK) : ∀ (us : List Value), Vals (ps.map fun p => V.ref p.1) us → us = ps.map fun p => Value.ref p.1 := by
  induction ps with
  | nil =>
    intro us r
    cases r
    rfl
  | cons p ps ih =>
    intro us r
    rw [List.map_cons] at r ⊢
    cases r with
    | cons r t =>
      rw [ih _ t, show _ = Value.ref p.1 from r]
theorem vals_refs (ps : List TK) : Vals (ps.map fun p => V.ref p.1) (ps.map fun p => Value.ref p.1) := by
  induction ps with
  | nil => exact .nil
  | cons p ps ih => exact .cons rfl ih
theorem tup_at (I : Inv X pins σ H s) {a : Addr} {x : Str} {r : List V} (h : H a = some (.tup (.str x :: r))) : ∃ (o : Obj) (us : List Value) (n : Nat) (t : Tok), s.heap.get? a = some o ∧ o.cls = .type "tuple" ∧ o.data = .seq (Value.str x t :: us).toArray n := by
  obtain ⟨_, its, rv, ⟨o, e, c, n, d⟩, _⟩ := (show ObjOk X.prog X.w H s.heap a (.tup (.str x :: r)) from I.hok a _ h)
  cases rv with
  | cons r1 r2 =>
    obtain ⟨t, rfl⟩ := r1
    exact ⟨o, _, n, t, e, c, d⟩
theorem pick_perm {n : Nat} {p : Array Nat} {α : Type} {d : α} {ps : List α} (hn : ps.length = n) (r : Re n p) : (p.toList.map fun i => ps.getD i d).Perm ps := by
  have hl : p.toList.Perm (List.range n) := by simpa using Array.perm_iff_toList_perm.mp r.perm
  refine (hl.map _).trans ?_
  have e : (List.range n).map (fun i => ps.getD i d) = ps := by
    apply List.ext_getElem?
    intro i
    rw [List.getElem?_map]
    by_cases hi : i < n
    · rw [List.getElem?_range hi]
      simp [List.getD, show i < ps.length by omega]
    · rw [List.getElem?_eq_none (by simpa using hi), List.getElem?_eq_none (by omega)]
      rfl
  rw [e]
theorem pick_pairwise {n : Nat} {p : Array Nat} {α : Type} {d : α} {ps : List α} {R : α → α → Prop} {lt : Nat → Nat → Bool} (hlt : ∀ i j, i < n → j < n → lt i j = true → R (ps.getD i d) (ps.getD j d)) (r : Re n p) (u : Up lt p n) : (p.toList.map fun i => ps.getD i d).Pairwise R := by
  rw [List.pairwise_iff_getElem]
  intro i j hi hj hij
  rw [List.length_map, Array.length_toList, r.size] at hi hj
  have get : ∀ k (hk : k < n) h, (p.toList.map fun i => ps.getD i d)[k]'h = ps.getD (p.getD k 0) d := fun k hk h => by
    rw [List.getElem_map]
    congr 1
    simp [Array.getD, r.size, hk]
  rw [get i hi, get j hj]
  exact hlt _ _ (r.lt i hi) (r.lt j hj) (u i j hij hj)
/-- sorted of a list of tuples that begin with texts, all unlike -/
theorem call_sortedT : CallR X (.builtin "sorted") (fun xs H Q => ∃ (a : Addr) (ps : List TK), xs = [.ref a] ∧ SqL X.K H a (ps.map fun p => V.ref p.1) ∧ (∀ p ∈ ps, H p.1 = some (.tup (.str p.2.1 :: p.2.2))) ∧ (ps.map (·.2.1)).Nodup ∧ ps.length < 64 ∧
    ∀ (qs : List TK) (l : Addr), qs.Perm ps → qs.Pairwise tkLt → H l = none → Q (.ref l) (upd H l (.lst (qs.map fun p => V.ref p.1)))) := by
  intro pins s σ H xs us Q I r h
  obtain ⟨a, ps, rfl, hq, ht, nd, h64, q⟩ := h
  obtain ⟨u, rfl, ru⟩ := vals1 r
  cases ru
  obtain ⟨its, rv, pl, hz⟩ := I.list hq
  have ei := refs_of ps its rv
  subst ei
  have hl := pl.isList
  obtain ⟨m, hm, _⟩ := I.loc
  by_cases few : ps.length < 2
  · refine sorted_few hl (by simpa using few) fun hp ep k e => ?_
    have I2 := I.newList (D := s.heap.objs.size + 1) (ys := ps.map fun p => V.ref p.1) hm (I.hok.fresh (Nat.le_succ _)) (Heap.get?_none_of_le (Nat.le_succ _)) (vals_refs ps) hz (hm.keeps k) (fun b o _ z => k b o z) e
    refine ⟨.ref _, _, I2, rfl, q ps _ (List.Perm.refl _) ?_ (I.hok.fresh (Nat.le_succ _))⟩
    match ps, few with
    | [], _ => exact .nil
    | [p], _ => exact List.pairwise_singleton _ _
  · have hlen : (ps.map fun p => Value.ref p.1).length = ps.length := List.length_map _
    have F0 : Fr (Att.noObjs s.heap) X.env.locals s.heap m := Att.fr_all hm
    have N0 : News (Att.noObjs s.heap) X.env.locals s.heap (allNews (Att.noObjs s.heap) s.heap X.env.locals) := news_all
    refine kat_sorted F0 N0 hl (by rw [hlen]; omega) (by rw [hlen]; exact h64) fun D e1 h' F' N' lD => ?_
    have keep : ∀ (g : Heap) (x : Obj), News (Att.noObjs s.heap) X.env.locals g ((D, x) :: allNews (Att.noObjs s.heap) s.heap X.env.locals) → ∀ b o, b ≠ X.env.locals → s.heap.get? b = some o → g.get? b = some o := fun g x N b o hb e =>
      (N (b, o) (List.mem_cons_of_mem _ (mem_allNews hb (Att.noObjs_get _ _) e))).1
    have kp := keep h' _ N'
    have atv : ∀ i, i < ps.length → (ps.map fun p => Value.ref p.1).getD i .none = Value.ref (ps.getD i (0, default, [])).1 := fun i hi => by
      simp [List.getD, hi]
    have item : ∀ i, i < ps.length → ∃ (o : Obj) (us : List Value) (n : Nat) (t : Tok), h'.get? (ps.getD i (0, default, [])).1 = some o ∧ o.cls = .type "tuple" ∧ o.data = .seq (Value.str (ps.getD i (0, default, [])).2.1 t :: us).toArray n := fun i hi => by
      have hm' : ps.getD i (0, default, []) ∈ ps := by
        have e : ps.getD i (0, default, []) = ps[i] := by simp [List.getD, hi]
        rw [e]; exact List.getElem_mem hi
      obtain ⟨o, us, n, t, e, c, d⟩ := tup_at I (ht _ hm')
      exact ⟨o, us, n, t, kp _ o (fun z => by have := ht _ hm'; rw [z, I.free] at this; cases this) e, c, d⟩
    have firsts : ∀ (qs : List TK), (∀ p ∈ qs, p ∈ ps) → ∃ fs : List Value, KatTups h' (qs.map fun p => Value.ref p.1) fs ∧ fs.length = qs.length ∧ ∀ v ∈ fs, ∃ x t, v = Value.str x t := by
      intro qs
      induction qs with
      | nil => intro _; exact ⟨[], KatTups.nil, rfl, by simp⟩
      | cons p qs ih =>
        intro hs
        obtain ⟨fs, t1, t2, t3⟩ := ih fun x hx => hs x (List.mem_cons_of_mem _ hx)
        have hp := hs p List.mem_cons_self
        obtain ⟨o, us, n, t, e, c, d⟩ := tup_at I (ht _ hp)
        refine ⟨Value.str p.2.1 t :: fs, KatTups.cons (kp _ o (fun z => by have := ht _ hp; rw [z, I.free] at this; cases this) e) c d (by simp) t1, by simp [t2], fun v hv => ?_⟩
        rcases List.mem_cons.mp hv with rfl | hv
        · exact ⟨_, _, rfl⟩
        · exact t3 v hv
    obtain ⟨fs, t1, t2, t3⟩ := firsts ps fun p hp => hp
    refine kat_kind (T := .type "str") (s := { s with heap := h' }) t1 (by rw [t2]; omega) (fun v hv => ?_) (by decide) ?_
    · obtain ⟨x, t, rfl⟩ := t3 v hv
      exact Looks.of_pure rfl
    rw [hlen]
    have O : Ord (kas_ask X.prog X.w X.A.in1.in1 (tuples' (Value.type "str" != Value.type "tuple")) (ps.map fun p => Value.ref p.1)) (fun i j => decide ((ps.getD i (0, default, [])).2.1.cps.toList < (ps.getD j (0, default, [])).2.1.cps.toList)) ps.length { s with heap := h' } := by
      have unlike : ∀ i j, i < ps.length → j < ps.length → i ≠ j → (ps.getD i (0, default, [])).2.1 ≠ (ps.getD j (0, default, [])).2.1 := fun i j hi hj hij e => by
        have ei : ps.getD i (0, default, []) = ps[i] := by simp [List.getD, hi]
        have ej : ps.getD j (0, default, []) = ps[j] := by simp [List.getD, hj]
        rw [ei, ej] at e
        exact hij ((List.getElem_inj (h₀ := by simpa using hi) (h₁ := by simpa using hj) nd).mp (by simpa using e))
      refine ⟨fun i j C hi hj hij hC => ?_, fun i j k h1 h2 => ?_, fun i j hi hj hij h1 => ?_, fun i j h1 => ?_⟩
      · show wpAny _ _ (keyLt' _ _ _) C _ _
        rw [atv i hi, atv j hj]
        obtain ⟨o, us, n, t, e, c, d⟩ := item i hi
        obtain ⟨o2, us2, n2, t2', e2, c2, d2⟩ := item j hj
        refine kat_lt (s := { s with heap := h' }) e d e2 d2 ?_
        show KatLex _ _ _ _ _ _ ((Value.str _ t, Value.str _ t2') :: _) 0 _
        refine kat_cons (wpAny_eqBool_str ?_)
        rw [decide_eq_false (unlike i j hi hj hij)]
        exact kat_no (oneLt_str hC)
      · exact decide_eq_true (List.lt_trans (of_decide_eq_true h1) (of_decide_eq_true h2))
      · exact decide_eq_true (lst_tot (of_decide_eq_false h1) fun e => unlike i j hi hj hij (str_ext e))
      · exact decide_eq_false (List.lt_asymm (of_decide_eq_true h1))
    refine sort_ok O (by omega) fun p re up => ?_
    have outs : (p.toList.map fun i => (ps.map fun p => Value.ref p.1).getD i .none) = (p.toList.map fun i => ps.getD i (0, default, [])).map fun p => Value.ref p.1 := by
      rw [List.map_map]
      refine List.map_congr_left fun i hi => ?_
      have hl2 : p.toList.Perm (List.range ps.length) := by simpa using Array.perm_iff_toList_perm.mp re.perm
      exact atv i (List.mem_range.mp ((List.Perm.mem_iff hl2).mp hi))
    rw [outs]
    have nL : D ≠ X.env.locals := (N' (D, _) List.mem_cons_self).2.1
    have hG : s.heap.get? D = none := by
      cases e : s.heap.get? D with
      | none => rfl
      | some o => exact absurd (lD (D, o) (mem_allNews nL (Att.noObjs_get _ _) e)) (Nat.lt_irrefl _)
    have hn : H D = none := by
      cases e : H D with
      | none => rfl
      | some u =>
        obtain ⟨o, e'⟩ := (I.hok D u e).live
        rw [hG] at e'
        cases e'
    refine KasFin.intro (news := (D, seqObj "list" #[] e1) :: allNews (Att.noObjs s.heap) s.heap X.env.locals) (g := fun o' => (D, o') :: allNews (Att.noObjs s.heap) s.heap X.env.locals) F' N' (.head fun q hq => nlt (lD q hq)) fun h2 c F2 N2 => ?_
    have pq := pick_perm (d := (0, default, [])) rfl re
    have I2 := I.newList (D := D) (ys := (p.toList.map fun i => ps.getD i (0, default, [])).map fun p => V.ref p.1) hm hn hG (vals_refs _) (by rw [List.length_map, pq.length_eq]; simpa using hz) F2.ns (keep h2 _ N2) (N2 (D, _) List.mem_cons_self).1
    exact ⟨.ref D, _, I2, rfl, q _ D pq (pick_pairwise (R := tkLt) (fun i j _ _ h => (of_decide_eq_true h : (ps.getD i (0, default, [])).2.1.cps.toList < (ps.getD j (0, default, [])).2.1.cps.toList)) re up) hn⟩
end
end L2

set_option maxHeartbeats 1000000
namespace L2
open PySem PySem.Spec PyProof.Rows

/-! ### a comprehension's scope, looked at by a program -/
def lcOk (N : List Str) (sc scope : Scope) (ix : List Nat) : Bool :=
  decide (scope.kind = .function) && scope.names.all (fun y => decide (y.2 ≠ .cell)) && scope.names.all (fun y => decide (y.2 = .local → scope.names.lookup y.1 = some .local)) &&
  scope.names.all (fun y => decide (y.2 = .free → sc.names.lookup y.1 = some .cell ∨ sc.names.lookup y.1 = some .free)) &&
  ix.all (fun j => decide (j < N.length) && match N[j]? with | some x => scope.names.any (fun y => decide (y.1 = x) && decide (y.2 = .free)) && decide (scope.names.lookup x = some .free) | none => false)
theorem LcScope.of {N : List Str} {sc scope : Scope} {own : List Str} {ix : List Nat} (h : lcOk N sc scope ix = true) : LcScope N sc scope own ix := by
  unfold lcOk at h
  simp only [Bool.and_eq_true, decide_eq_true_eq, List.all_eq_true] at h
  obtain ⟨⟨⟨⟨h1, h2⟩, h3⟩, h4⟩, h5⟩ := h
  refine ⟨h1, h2, h3, h4, fun j hj x hx => ?_, fun j hj => (h5 j hj).1⟩
  have := (h5 j hj).2
  rw [hx] at this
  simp only [Bool.and_eq_true, decide_eq_true_eq, List.any_eq_true] at this
  obtain ⟨⟨⟨n, k⟩, hy, e1, e2⟩, e3⟩ := this
  have e1' : n = x := e1
  have e2' : k = .free := e2
  subst e1' e2'
  exact ⟨hy, e3⟩
theorem lc_nd {l N : List Str} (h : l.Nodup) (e : N = l) : N.Nodup := by rw [e]; exact h

/-! ### a def of the text by its name -/
structure Def (P : Program) (w : World) (K : PySem.W.Frag) (mg : Str → Option Value) (base : Heap) (k : Nat) (x : Str) (ps : List Str) (sp : Sp) : Prop where
  ex : ∃ f fd, FnOk P w K mg base CX0 k f fd ps sp ∧ Binds K fd ps [] ∧ PySem.W.keepIn K (.ref f) = true ∧ mg x = some (.ref f)
theorem Def.up {P : Program} {w : World} {K : PySem.W.Frag} {mg : Str → Option Value} {base : Heap} {j k : Nat} {x : Str} {ps : List Str} {sp : Sp} (d : Def P w K mg base j x ps sp) (h : j ≤ k) : Def P w K mg base k x ps sp :=
  let ⟨f, fd, F, b, kp, m⟩ := d.ex
  ⟨f, fd, F.mono h, b, kp, m⟩
theorem pe_def {X : Cx} {k : Nat} {x : Str} {ps : List Str} {sp : Sp} {p pos : Pos} {e : Expr} {es : List Expr} {t : TA} (d : Def X.prog X.w X.K X.mg X.base k x ps sp) (hr : Room k X.A) (hg : Gl X x) (ha : PA X (e :: es) t) (hdb : (x == ("__debug__" : Str)) = false := by decide)
    (he : starEach (e :: es) X.env = (false, eval e X.env) :: starEach es X.env := by rfl) (hpl : (backTo pos (starEach es X.env)).any (·.1) = false := by rfl) : PE X (.Call (.Name x p) (e :: es) [] pos) (tCall sp [] E0 t) := by
  obtain ⟨f, fd, F, b, kp, m⟩ := d.ex
  exact pe_call F hr hg m kp b .nil pass0 ha hdb he hpl

/-! ### deep values: tuples and lists of plain ones -/
inductive Dv where
  | non | bl (b : Bool) | int (i : Int) | str (x : Str) | tup (xs : List Dv) | lst (xs : List Dv) | dct
mutual
def Rep (H : Hp) : Dv → V → Prop
  | .non, v => v = .non
  | .bl b, v => v = .bl b
  | .int i, v => v = .int i
  | .str x, v => v = .str x
  | .tup ds, v => ∃ a vs, v = .ref a ∧ H a = some (.tup vs) ∧ Reps H ds vs
  | .lst ds, v => ∃ a vs, v = .ref a ∧ H a = some (.lst vs) ∧ Reps H ds vs
  | .dct, v => ∃ a, v = .ref a ∧ H a = some (.dK [])
def Reps (H : Hp) : List Dv → List V → Prop
  | [], vs => vs = []
  | d :: ds, vs => ∃ v r, vs = v :: r ∧ Rep H d v ∧ Reps H ds r
end
mutual
theorem Rep.mono {H H' : Hp} (s : Same H H') : ∀ {d : Dv} {v : V}, Rep H d v → Rep H' d v
  | .non, _, h => by simpa only [Rep] using h
  | .bl b, _, h => by simpa only [Rep] using h
  | .int i, _, h => by simpa only [Rep] using h
  | .str x, _, h => by simpa only [Rep] using h
  | .tup ds, _, h => by
    simp only [Rep] at h ⊢
    obtain ⟨a, vs, e, h1, h2⟩ := h
    exact ⟨a, vs, e, s _ _ h1, Reps.mono s h2⟩
  | .lst ds, _, h => by
    simp only [Rep] at h ⊢
    obtain ⟨a, vs, e, h1, h2⟩ := h
    exact ⟨a, vs, e, s _ _ h1, Reps.mono s h2⟩
  | .dct, _, h => by
    simp only [Rep] at h ⊢
    obtain ⟨a, e, h1⟩ := h
    exact ⟨a, e, s _ _ h1⟩
theorem Reps.mono {H H' : Hp} (s : Same H H') : ∀ {ds : List Dv} {vs : List V}, Reps H ds vs → Reps H' ds vs
  | [], _, h => by simpa only [Reps] using h
  | d :: ds, _, h => by
    simp only [Reps] at h ⊢
    obtain ⟨v, r, e, h1, h2⟩ := h
    exact ⟨v, r, e, Rep.mono s h1, Reps.mono s h2⟩
end
theorem Reps.length {H : Hp} : ∀ {ds : List Dv} {vs : List V}, Reps H ds vs → vs.length = ds.length
  | [], _, h => by simp only [Reps] at h; subst h; rfl
  | d :: ds, _, h => by
    simp only [Reps] at h
    obtain ⟨v, r, e, h1, h2⟩ := h
    subst e
    rw [List.length_cons, List.length_cons, Reps.length h2]
theorem Reps.get {H : Hp} : ∀ {ds : List Dv} {vs : List V}, Reps H ds vs → ∀ {i : Nat} {v : V}, vs[i]? = some v → ∃ d, ds[i]? = some d ∧ Rep H d v
  | [], _, h, i, v, e => by simp only [Reps] at h; subst h; simp at e
  | d :: ds, _, h, i, v, e => by
    simp only [Reps] at h
    obtain ⟨v', r, e', h1, h2⟩ := h
    subst e'
    cases i with
    | zero => exact ⟨d, rfl, by have : v' = v := by simpa using e
                                subst this; exact h1⟩
    | succ i => obtain ⟨d', e1, e2⟩ := Reps.get h2 (i := i) (v := v) (by simpa using e); exact ⟨d', by simpa using e1, e2⟩
/-- the name of its type -/
def Dv.tn : Dv → String
  | .non => "NoneType" | .bl _ => "bool" | .int _ => "int" | .str _ => "str" | .tup _ => "tuple" | .lst _ => "list" | .dct => "dict"
theorem Rep.ty {K : PySem.W.Frag} {H : Hp} {d : Dv} {v : V} (h : Rep H d v) : TyOf K H v (.type d.tn) := by
  cases d with
  | non => simp only [Rep] at h; subst h; exact .non
  | bl b => simp only [Rep] at h; subst h; exact .bl b
  | int i => simp only [Rep] at h; subst h; exact .int i
  | str x => simp only [Rep] at h; subst h; exact .str x
  | tup ds => simp only [Rep] at h; obtain ⟨a, vs, rfl, h1, _⟩ := h; exact .tup h1
  | lst ds => simp only [Rep] at h; obtain ⟨a, vs, rfl, h1, _⟩ := h; exact .lst h1
  | dct => simp only [Rep] at h; obtain ⟨a, rfl, h1⟩ := h; exact .dK h1
/-- isinstance against int, bool, str, tuple, list -/
def isT (d : Dv) (n : String) : Bool := d.tn == n || (d.tn == "bool" && n == "int")
theorem kit_int (K : PySem.W.Frag) (d : Dv) : PySem.W.kitOne K (.type d.tn) (.type "int") = some (isT d "int") := by
  unfold PySem.W.kitOne PySem.W.kitCls
  cases d <;> kernel_rfl
theorem kit_bool (K : PySem.W.Frag) (d : Dv) : PySem.W.kitOne K (.type d.tn) (.type "bool") = some (isT d "bool") := by
  unfold PySem.W.kitOne PySem.W.kitCls
  cases d <;> kernel_rfl
theorem kit_str (K : PySem.W.Frag) (d : Dv) : PySem.W.kitOne K (.type d.tn) (.type "str") = some (isT d "str") := by
  unfold PySem.W.kitOne PySem.W.kitCls
  cases d <;> kernel_rfl
theorem kit_tuple (K : PySem.W.Frag) (d : Dv) : PySem.W.kitOne K (.type d.tn) (.type "tuple") = some (isT d "tuple") := by
  unfold PySem.W.kitOne PySem.W.kitCls
  cases d <;> kernel_rfl
theorem kit_list (K : PySem.W.Frag) (d : Dv) : PySem.W.kitOne K (.type d.tn) (.type "list") = some (isT d "list") := by
  unfold PySem.W.kitOne PySem.W.kitCls
  cases d <;> kernel_rfl
end L2

set_option maxHeartbeats 1000000
namespace L2
open PySem PySem.Spec PyProof.Rows
section
variable {k : Nat} {ix : List Nat} {g : TG} {tt : TT} {te : TE} {σ : St} {H1 : Hp} {Q : List V → Hp → Prop}
theorem lc_itf {f : Nat → V} {n : Nat} (Pv : Nat → List V → Hp → Prop) (h0 : Pv 0 [] H1) (hs : ∀ i ys H, i < n → Pv i ys H → lcTurn k ix g tt te σ (f i) ys H (Pv (i + 1))) (hd : ∀ ys H, Pv n ys H → Q ys H) : rLC (Itf f n) k ix g tt te σ H1 Q :=
  lc_by (n := n) Pv h0 (fun i _ _ h _ => h) (fun _ _ _ => rfl) (fun i ys H x H' h p y => by
    obtain ⟨e, y⟩ := y
    subst e y
    exact hs i ys _ h p) hd
/-- each item is a value, nothing is made -/
theorem lc_itf_map {f F : Nat → V} {n : Nat} (hs : ∀ i ys, i < n → ys.length = i → lcTurn k ix g tt te σ (f i) ys H1 fun ys' H' => ys' = ys ++ [F i] ∧ H' = H1) (hd : Q ((List.range n).map F) H1) : rLC (Itf f n) k ix g tt te σ H1 Q := by
  refine ⟨fun i m ys H => m = n - i ∧ i ≤ n ∧ H = H1 ∧ ys = (List.range i).map F, ⟨n, by simp, Nat.zero_le _, rfl, rfl⟩, ?_⟩
  rintro i m ys H ⟨rfl, hi, rfl, rfl⟩
  by_cases hlt : i < n
  · refine .inr ⟨hlt, fun ys' H' => ys' = (List.range i).map F ++ [F i] ∧ H' = H, fun ys' H' ⟨e1, e2⟩ => ⟨n - (i + 1), by omega, rfl, hlt, e2, by rw [e1, List.range_succ, List.map_append]; rfl⟩, fun x H' y => ?_⟩
    obtain ⟨e, y⟩ := y
    subst e y
    exact hs i _ hlt (by simp)
  · have e : i = n := by omega
    subst e
    exact .inl ⟨rfl, hd⟩
/-- over a range of ints, as a list -/
theorem lc_range_map {F : Nat → V} {lo : Int} {n : Nat} (hs : ∀ i ys, i < n → ys.length = i → lcTurn k ix g tt te σ (.int (lo + i)) ys H1 fun ys' H' => ys' = ys ++ [F i] ∧ H' = H1) (hd : Q ((List.range n).map F) H1) : rLC (Itr lo n) k ix g tt te σ H1 Q := by
  refine ⟨fun i m ys H => m = n - i ∧ i ≤ n ∧ H = H1 ∧ ys = (List.range i).map F, ⟨n, by simp, Nat.zero_le _, rfl, rfl⟩, ?_⟩
  rintro i m ys H ⟨rfl, hi, rfl, rfl⟩
  by_cases hlt : i < n
  · refine .inr ⟨hlt, fun ys' H' => ys' = (List.range i).map F ++ [F i] ∧ H' = H, fun ys' H' ⟨e1, e2⟩ => ⟨n - (i + 1), by omega, rfl, hlt, e2, by rw [e1, List.range_succ, List.map_append]; rfl⟩, fun x H' y => ?_⟩
    obtain ⟨e, y⟩ := y
    subst e y
    exact hs i _ hlt (by simp)
  · have e : i = n := by omega
    subst e
    exact .inl ⟨Nat.le_refl _, hd⟩
theorem turn_name {i : Nat} {x : V} {ys : List V} {H : Hp} {N : List V → Hp → Prop} (h : te ((capSt k ix σ).set i (some x)) H fun y H4 => ys.length < sizeLine ∧ N (ys ++ [y]) H4) : lcTurn k ix (gName i) tYes te σ x ys H N := by
  exact iteT (B := N ys H) h
theorem turn_two {i j : Nat} {K : PySem.W.Frag} {a : Addr} {x y : V} {ys : List V} {H : Hp} {N : List V → Hp → Prop} (ha : H a = some (.tup [x, y])) (h : te (((capSt k ix σ).set i (some x)).set j (some y)) H fun y H4 => ys.length < sizeLine ∧ N (ys ++ [y]) H4) :
    lcTurn k ix (gTup K 2 (gCons (gName i) (gCons (gName j) gNil))) tYes te σ (.ref a) ys H N := by
  refine ⟨a, _, rfl, SqT.of ha, rfl, _, _, rfl, _, _, rfl, rfl, ?_⟩
  exact iteT (B := N ys H) h
/-- over a tuple that stays: Pv by the turn -/
theorem for_itf {f : Nat → V} {n : Nat} {g : TG} {tb : TS} {D : Ends} {σ : St} {H : Hp} (Pv : Nat → St → Hp → Prop) (h0 : Pv 0 σ H)
    (hs : ∀ i σ H, i < n → Pv i σ H → g (f i) σ H fun σ2 H2 => tb { D with nx := Pv (i + 1), ct := Pv (i + 1), bk := D.nx } σ2 H2) (hd : ∀ σ H, Pv n σ H → D.nx σ H) :
    ∃ W : Nat → Nat → St → Hp → Prop, (∃ m, W 0 m σ H) ∧ ∀ i m σ H, W i m σ H →
      ((Itf f n).stop i H ∧ D.nx σ H) ∨ ((Itf f n).go i H ∧ ∃ N : St → Hp → Prop, (∀ σ' H', N σ' H' → ∃ m', m' < m ∧ W (i + 1) m' σ' H') ∧ ∀ x H', (Itf f n).yld i H x H' → g x σ H' fun σ2 H2 => tb { D with nx := N, ct := N, bk := D.nx } σ2 H2) := by
  refine ⟨fun i m σ H => m = n - i ∧ i ≤ n ∧ Pv i σ H, ⟨n, by simp, Nat.zero_le _, h0⟩, ?_⟩
  rintro i m σ H ⟨rfl, hi, p⟩
  by_cases hlt : i < n
  · refine .inr ⟨hlt, Pv (i + 1), fun σ' H' p' => ⟨n - (i + 1), by omega, rfl, hlt, p'⟩, fun x H' y => ?_⟩
    obtain ⟨e, y⟩ := y
    subst e y
    exact hs i σ _ hlt p
  · have e : i = n := by omega
    subst e
    exact .inl ⟨rfl, hd σ H p⟩
/-- over enumerate(list) -/
theorem for_enum {K : PySem.W.Frag} {a : Addr} {xs : List V} {g : TG} {tb : TS} {D : Ends} {σ : St} {H : Hp} (Pv : Nat → St → Hp → Prop) (h0 : Pv 0 σ H) (hl : ∀ i σ H, i ≤ xs.length → Pv i σ H → SqL K H a xs)
    (hs : ∀ i x σ H p, xs[i]? = some x → Pv i σ H → H p = none → g (.ref p) σ (upd H p (.tup [.int i, x])) fun σ2 H2 => tb { D with nx := Pv (i + 1), ct := Pv (i + 1), bk := D.nx } σ2 H2) (hd : ∀ σ H, Pv xs.length σ H → D.nx σ H) :
    ∃ W : Nat → Nat → St → Hp → Prop, (∃ m, W 0 m σ H) ∧ ∀ i m σ H, W i m σ H →
      ((Ite K a).stop i H ∧ D.nx σ H) ∨ ((Ite K a).go i H ∧ ∃ N : St → Hp → Prop, (∀ σ' H', N σ' H' → ∃ m', m' < m ∧ W (i + 1) m' σ' H') ∧ ∀ x H', (Ite K a).yld i H x H' → g x σ H' fun σ2 H2 => tb { D with nx := N, ct := N, bk := D.nx } σ2 H2) := by
  refine ⟨fun i m σ H => m = xs.length - i ∧ i ≤ xs.length ∧ Pv i σ H, ⟨xs.length, by simp, Nat.zero_le _, h0⟩, ?_⟩
  rintro i m σ H ⟨rfl, hi, p⟩
  have q := hl i σ H hi p
  by_cases hlt : i < xs.length
  · refine .inr ⟨⟨xs, xs[i], q, by simp [hlt]⟩, Pv (i + 1), fun σ' H' p' => ⟨xs.length - (i + 1), by omega, rfl, hlt, p'⟩, fun x H' y => ?_⟩
    obtain ⟨b, y, hb, e1, e2, hy⟩ := y
    subst e1 e2
    exact hs i y σ H b (hy xs q) p hb
  · have e : i = xs.length := by omega
    subst e
    exact .inl ⟨⟨xs, q, Nat.le_refl _⟩, hd σ H p⟩
end
/- all texts within are short -/
mutual
def Dv.small : Dv → Bool
  | .str x => decide (x.cps.size ≤ 1000)
  | .tup xs => smalls xs && decide (xs.length ≤ 1000)
  | .lst xs => smalls xs && decide (xs.length ≤ 1000)
  | _ => true
def smalls : List Dv → Bool
  | [] => true
  | d :: ds => d.small && smalls ds
end
theorem smalls_get : ∀ {ds : List Dv}, smalls ds = true → ∀ {i : Nat} {d : Dv}, ds[i]? = some d → d.small = true
  | [], _, i, d, e => by simp at e
  | x :: ds, h, i, d, e => by
    simp only [smalls, Bool.and_eq_true] at h
    cases i with
    | zero =>
      have e' : x = d := by simpa using e
      subst e'; exact h.1
    | succ i => exact smalls_get h.2 (i := i) (by simpa using e)
theorem len1000 {x : Str} (h : x.cps.size ≤ 1000) : x.length ≤ sizeLine := Nat.le_of_lt (small1000 h)
theorem same_new {H : Hp} {p : Addr} (h : H p = none) (o : HO) : Same H (upd H p o) := fun b u q => by rw [upd_ne (ne_of_none q h)]; exact q
theorem le1000 {n : Nat} (h : n ≤ 1000) : n ≤ sizeLine := Nat.le_of_lt (small1000 h)
end L2
namespace L2
open PySem PySem.Spec PyProof.Rows
section
variable {X : Cx}
theorem ix_listK (K : PySem.W.Frag) (h : X.K = K) : IxR X (rIxL K) := by subst h; exact ix_list
theorem ix_tupK (K : PySem.W.Frag) (h : X.K = K) : IxR X (rIxT K) := by subst h; exact ix_tup
theorem len_seqK (K : PySem.W.Frag) (h : X.K = K) : CallR X (.builtin "len") (fun xs H Q => ∃ p ys, xs = [.ref p] ∧ (SqL K H p ys ∨ SqT K H p ys) ∧ Q (.int ys.length) H) := by subst h; exact call_len_seq
theorem isiK (K : PySem.W.Frag) (h : X.K = K) : CallR X (.builtin "isinstance") (fun xs H Q => ∃ x t n b, xs = [x, .ty n] ∧ TyOf K H x t ∧ PySem.W.kitOne K t (.type n) = some b ∧ Q (.bl b) H) := by subst h; exact call_isi
theorem allK (K : PySem.W.Frag) (h : X.K = K) (hc : X.calm = true) : CallR X (.builtin "all") (fun xs H Q => ∃ (a : Addr) (bs : List Bool), xs = [.ref a] ∧ SqL K H a (bs.map V.bl) ∧ Q (.bl (bs.all id)) H) := by subst h; exact call_all hc
end
end L2

set_option maxHeartbeats 1000000
namespace L2
open PySem PySem.Spec PyProof.Rows
section
variable {X : Cx}
/-- t + u of tuples, either may be empty -/
def rCatA (K : PySem.W.Frag) : R2 := fun x y H Q => ∃ a b xs ys, x = .ref a ∧ y = .ref b ∧ SqT K H a xs ∧ SqT K H b ys ∧ xs.length + ys.length ≤ sizeLine ∧
  (xs = [] → Q (.ref b) H) ∧ (ys = [] → Q (.ref a) H) ∧ (∀ p, H p = none → Q (.ref p) (upd H p (.tup (xs ++ ys))))
theorem op_catA : OpR X (binaryOp .Add) (rCatA X.K) := by
  intro pins s σ H x y v u Q I rx ry h
  obtain ⟨a, b, xs, ys, rfl, rfl, ha, hb, hz, q0, q1, q2⟩ := h
  by_cases hx : xs = []
  · cases rx
    cases ry
    obtain ⟨its, r1, p1, _⟩ := I.tuple ha
    obtain ⟨its2, r2, p2, _⟩ := I.tuple hb
    subst hx
    cases r1
    obtain ⟨⟨cls, dd, data, sl⟩, ho, hc, n, hd⟩ := id p1
    obtain ⟨⟨cls2, dd2, data2, sl2⟩, ho2, hc2, n2, hd2⟩ := id p2
    simp only at hc hd hc2 hd2
    subst hc hd hc2 hd2
    exact concat_meets ⟨_, ho, rfl⟩ ⟨_, ho2, rfl⟩ noFill_tuple_add seq_tuple_add PySem.F.slot_tuple_add PySem.F.entry_tuple_add (PySem.F.args_tuple_add_2 _ _) (tuple_addW0 a b _ _ n n2 dd dd2 sl sl2 rfl) ⟨ho, ho2, ⟨.ref b, H, I, rfl, q0 rfl⟩⟩
  · exact op_catT pins s σ H (.ref a) (.ref b) v u Q I rx ry ⟨a, b, xs, ys, rfl, rfl, ha, hb, hx, hz, q1, fun _ => q2⟩
end
/-! ### expressions that come to deep values -/
def Deep (t : TE) (σ : St) (H : Hp) (d : Dv) : Prop := ∀ H1, Same H H1 → ∀ Q : VK, (∀ H' v, Same H1 H' → Rep H' d v → Q v H') → t σ H1 Q
def Deeps (t : TA) (σ : St) (H : Hp) (ds : List Dv) : Prop := ∀ H1, Same H H1 → ∀ Q : List V → Hp → Prop, (∀ H' vs, Same H1 H' → Reps H' ds vs → Q vs H') → t σ H1 Q
section
variable {σ : St} {H : Hp} {d e : Dv} {ds es : List Dv} {ta tb : TE} {t : TA}
theorem Deep.mono {H' : Hp} (h : Deep ta σ H d) (s : Same H H') : Deep ta σ H' d := fun H1 s1 Q q => h H1 (s.trans s1) Q q
theorem deeps_nil : Deeps tNil σ H [] := fun H1 s Q q => q H1 [] (Same.refl _) (by simp [Reps])
theorem deeps_cons (h1 : Deep ta σ H d) (h2 : Deeps t σ H ds) : Deeps (tCons ta t) σ H (d :: ds) := fun H1 s Q q =>
  h1 H1 s _ fun H2 v s2 R => h2 H2 (s.trans s2) _ fun H3 vs s3 Rs => q H3 (v :: vs) (s2.trans s3) (by simp only [Reps]; exact ⟨v, vs, rfl, R.mono s3, Rs⟩)
theorem deep_tup (h : Deeps t σ H ds) (hz : ds.length ≤ 1000) : Deep (tTup t) σ H (.tup ds) := fun H1 s Q q =>
  h H1 s _ fun H2 vs s2 Rs => ⟨by rw [Rs.length]; exact le1000 hz, fun p hp => q _ (.ref p) (s2.trans (same_new hp _)) (by simp only [Rep]; exact ⟨p, vs, rfl, upd_same, Rs.mono (same_new hp _)⟩)⟩
theorem deep_lst (h : Deeps t σ H ds) (hz : ds.length ≤ 1000) : Deep (tLst t) σ H (.lst ds) := fun H1 s Q q =>
  h H1 s _ fun H2 vs s2 Rs => ⟨by rw [Rs.length]; exact le1000 hz, fun p hp => q _ (.ref p) (s2.trans (same_new hp _)) (by simp only [Rep]; exact ⟨p, vs, rfl, upd_same, Rs.mono (same_new hp _)⟩)⟩
theorem deep_dct : Deep tDNewK σ H .dct := fun H1 s Q q p hp => q _ (.ref p) (same_new hp _) (by simp only [Rep]; exact ⟨p, rfl, upd_same⟩)
theorem deep_int {i : Int} : Deep (tC (.int i)) σ H (.int i) := fun H1 _ Q q => q H1 _ (Same.refl _) (by simp [Rep])
theorem deep_bl {b : Bool} : Deep (tC (.bl b)) σ H (.bl b) := fun H1 _ Q q => q H1 _ (Same.refl _) (by simp [Rep])
theorem deep_non : Deep (tC .non) σ H .non := fun H1 _ Q q => q H1 _ (Same.refl _) (by simp [Rep])
theorem deep_str {x : Str} : Deep (tC (.str x)) σ H (.str x) := fun H1 _ Q q => q H1 _ (Same.refl _) (by simp [Rep])
theorem deep_var {i : Nat} {v : V} (hv : σ[i]? = some (some v)) (R : Rep H d v) : Deep (tVar i) σ H d := fun H1 s Q q => ⟨v, hv, q H1 v (Same.refl _) (R.mono s)⟩
theorem deep_sub {i j : Int} (h1 : Deep ta σ H (.int i)) (h2 : Deep tb σ H (.int j)) : Deep (tOp (rI0 fun i j => .int (i - j)) ta tb) σ H (.int (i - j)) := fun H1 s Q q =>
  h1 H1 s _ fun H2 v s2 R => h2 H2 (s.trans s2) _ fun H3 w s3 R2 => by
    obtain rfl : v = .int i := R
    obtain rfl : w = .int j := R2
    exact ⟨i, j, rfl, rfl, q H3 _ (s2.trans s3) (by simp [Rep])⟩
theorem deep_neg {i : Int} (h1 : Deep ta σ H (.int i)) : Deep (tUn (rU fun i => .int (-i)) ta) σ H (.int (-i)) := fun H1 s Q q =>
  h1 H1 s _ fun H2 v s2 R => by
    obtain rfl : v = .int i := R
    exact ⟨i, rfl, q H2 _ s2 (by simp [Rep])⟩
theorem Reps.append {H : Hp} : ∀ {ds es : List Dv} {vs ws : List V}, Reps H ds vs → Reps H es ws → Reps H (ds ++ es) (vs ++ ws)
  | [], _, _, _, h, g => by simp only [Reps] at h; subst h; exact g
  | d :: ds, es, vs, ws, h, g => by
    simp only [Reps] at h
    obtain ⟨v, r, rfl, h1, h2⟩ := h
    simp only [List.cons_append, Reps]
    exact ⟨v, r ++ ws, rfl, h1, Reps.append h2 g⟩
theorem deep_cat {K : PySem.W.Frag} (h1 : Deep ta σ H (.tup ds)) (h2 : Deep tb σ H (.tup es)) (hz : ds.length + es.length ≤ 1000) : Deep (tOp (rCatA K) ta tb) σ H (.tup (ds ++ es)) := fun H1 s Q q =>
  h1 H1 s _ fun H2 v s2 R => h2 H2 (s.trans s2) _ fun H3 w s3 R2 => by
    have R' := R.mono s3
    simp only [Rep] at R' R2
    obtain ⟨a, xs, rfl, ha, r1⟩ := R'
    obtain ⟨b, ys, rfl, hb, r2⟩ := R2
    have l1 := r1.length
    have l2 := r2.length
    have rr := r1.append r2
    refine ⟨a, b, xs, ys, rfl, rfl, SqT.of ha, SqT.of hb, by rw [l1, l2]; exact le1000 hz, fun e => ?_, fun e => ?_, fun p hp => q _ (.ref p) ((s2.trans s3).trans (same_new hp _)) (by simp only [Rep]; exact ⟨p, xs ++ ys, rfl, upd_same, rr.mono (same_new hp _)⟩)⟩
    · refine q H3 _ (s2.trans s3) ?_
      simp only [Rep]
      exact ⟨b, ys, rfl, hb, by subst e; simpa using rr⟩
    · refine q H3 _ (s2.trans s3) ?_
      simp only [Rep]
      exact ⟨a, xs, rfl, ha, by subst e; simpa using rr⟩
theorem deep_list {K : PySem.W.Frag} (h1 : Deep ta σ H (.tup ds)) : Deep (tCB (fun xs H Q => ∃ p ys, xs = [.ref p] ∧ (SqL K H p ys ∨ SqT K H p ys) ∧ ∀ l, H l = none → Q (.ref l) (upd H l (.lst ys))) (tCons ta tNil)) σ H (.lst ds) := fun H1 s Q q =>
  h1 H1 s _ fun H2 v s2 R => by
    simp only [Rep] at R
    obtain ⟨a, xs, rfl, ha, r1⟩ := R
    exact ⟨a, xs, rfl, .inr (SqT.of ha), fun l hl => q _ (.ref l) (s2.trans (same_new hl _)) (by simp only [Rep]; exact ⟨l, xs, rfl, upd_same, r1.mono (same_new hl _)⟩)⟩
/-- l + [..] of lists -/
theorem deep_catL (h1 : Deep ta σ H (.lst ds)) (h2 : Deep tb σ H (.lst es)) (hz : ds.length + es.length ≤ 1000) : Deep (tOp rCat ta tb) σ H (.lst (ds ++ es)) := fun H1 s Q q =>
  h1 H1 s _ fun H2 v s2 R => h2 H2 (s.trans s2) _ fun H3 w s3 R2 => by
    have R' := R.mono s3
    simp only [Rep] at R' R2
    obtain ⟨a, xs, rfl, ha, r1⟩ := R'
    obtain ⟨b, ys, rfl, hb, r2⟩ := R2
    have rr := r1.append r2
    exact ⟨a, b, xs, ys, rfl, rfl, ha, hb, by rw [r1.length, r2.length]; exact le1000 hz, fun p hp => q _ (.ref p) ((s2.trans s3).trans (same_new hp _)) (by simp only [Rep]; exact ⟨p, xs ++ ys, rfl, upd_same, rr.mono (same_new hp _)⟩)⟩
end
end L2
namespace L2
open PySem PySem.Spec PyProof.Rows
/-! ### a list that grows: its items do not lean on it -/
def less1 (H : Hp) (l : Addr) : Hp := fun b => if b = l then none else H b
theorem less1_sub {H : Hp} {l : Addr} : Same (less1 H l) H := fun b o h => by
  unfold less1 at h
  by_cases e : b = l
  · rw [if_pos e] at h; cases h
  · rw [if_neg e] at h; exact h
theorem less1_same {H H' : Hp} {l : Addr} (s : Same H H') : Same (less1 H l) (less1 H' l) := fun b o h => by
  unfold less1 at h ⊢
  by_cases e : b = l
  · rw [if_pos e] at h; cases h
  · rw [if_neg e] at h ⊢; exact s b o h
theorem less1_of {H H' : Hp} {l : Addr} (s : Same H H') (hl : H l = none) : Same H (less1 H' l) := fun b o h => by
  unfold less1
  rw [if_neg (ne_of_none h hl)]
  exact s b o h
theorem less1_upd {H : Hp} {l : Addr} {o : HO} : Same (less1 H l) (upd H l o) := fun b u h => by
  unfold less1 at h
  by_cases e : b = l
  · rw [if_pos e] at h; cases h
  · rw [if_neg e] at h; rw [upd_ne e]; exact h
theorem less1_new {H : Hp} {l p : Addr} {o : HO} (hl : H l ≠ none) (hp : H p = none) : less1 (upd H p o) l p = some o ∧ Same (less1 H l) (less1 (upd H p o) l) := by
  have ne : p ≠ l := fun e => hl (e ▸ hp)
  refine ⟨?_, less1_same (same_new hp o)⟩
  unfold less1
  rw [if_neg ne, upd_same]
structure RepL (H : Hp) (l : Addr) (ds : List Dv) : Prop where
  ex : ∃ xs, H l = some (.lst xs) ∧ Reps (less1 H l) ds xs
theorem RepL.rep {H : Hp} {l : Addr} {ds : List Dv} (h : RepL H l ds) : Rep H (.lst ds) (.ref l) := by
  obtain ⟨xs, h1, h2⟩ := h.ex
  simp only [Rep]
  exact ⟨l, xs, rfl, h1, h2.mono less1_sub⟩
def DeepA (l : Addr) (t : TE) (σ : St) (H : Hp) (d : Dv) : Prop := ∀ H1, Same H H1 → ∀ Q : VK, (∀ H' v, Same H1 H' → Rep (less1 H' l) d v → Q v H') → t σ H1 Q
def DeepsA (l : Addr) (t : TA) (σ : St) (H : Hp) (ds : List Dv) : Prop := ∀ H1, Same H H1 → ∀ Q : List V → Hp → Prop, (∀ H' vs, Same H1 H' → Reps (less1 H' l) ds vs → Q vs H') → t σ H1 Q
section
variable {σ : St} {H : Hp} {d e : Dv} {ds es : List Dv} {ta tb : TE} {t : TA} {l : Addr}
theorem deepsA_nil : DeepsA l tNil σ H [] := fun H1 s Q q => q H1 [] (Same.refl _) (by simp [Reps])
theorem deepsA_cons (h1 : DeepA l ta σ H d) (h2 : DeepsA l t σ H ds) : DeepsA l (tCons ta t) σ H (d :: ds) := fun H1 s Q q =>
  h1 H1 s _ fun H2 v s2 R => h2 H2 (s.trans s2) _ fun H3 vs s3 Rs => q H3 (v :: vs) (s2.trans s3) (by simp only [Reps]; exact ⟨v, vs, rfl, R.mono (less1_same s3), Rs⟩)
theorem same_some {H H' : Hp} (s : Same H H') {l : Addr} (h : H l ≠ none) : H' l ≠ none := by
  cases e : H l with
  | none => exact absurd e h
  | some o => rw [s l o e]; exact fun z => by cases z
theorem deepA_tup (hl : H l ≠ none) (h : DeepsA l t σ H ds) (hz : ds.length ≤ 1000) : DeepA l (tTup t) σ H (.tup ds) := fun H1 s Q q =>
  h H1 s _ fun H2 vs s2 Rs => ⟨by rw [Rs.length]; exact le1000 hz, fun p hp => by
    obtain ⟨e1, e2⟩ := less1_new (o := .tup vs) (same_some (s.trans s2) hl) hp
    exact q _ (.ref p) (s2.trans (same_new hp _)) (by simp only [Rep]; exact ⟨p, vs, rfl, e1, Rs.mono e2⟩)⟩
theorem deepA_lst (hl : H l ≠ none) (h : DeepsA l t σ H ds) (hz : ds.length ≤ 1000) : DeepA l (tLst t) σ H (.lst ds) := fun H1 s Q q =>
  h H1 s _ fun H2 vs s2 Rs => ⟨by rw [Rs.length]; exact le1000 hz, fun p hp => by
    obtain ⟨e1, e2⟩ := less1_new (o := .lst vs) (same_some (s.trans s2) hl) hp
    exact q _ (.ref p) (s2.trans (same_new hp _)) (by simp only [Rep]; exact ⟨p, vs, rfl, e1, Rs.mono e2⟩)⟩
theorem deepA_int {i : Int} : DeepA l (tC (.int i)) σ H (.int i) := fun H1 _ Q q => q H1 _ (Same.refl _) (by simp [Rep])
theorem deepA_str {x : Str} : DeepA l (tC (.str x)) σ H (.str x) := fun H1 _ Q q => q H1 _ (Same.refl _) (by simp [Rep])
theorem deepA_var {i : Nat} {v : V} (hv : σ[i]? = some (some v)) (R : Rep (less1 H l) d v) : DeepA l (tVar i) σ H d := fun H1 s Q q => ⟨v, hv, q H1 v (Same.refl _) (R.mono (less1_same s))⟩
variable {i : Nat} {u : TS} {D : Ends}
/-- name = e -/
theorem set_deep (h : Deep ta σ H d) (k : ∀ H' v, Same H H' → Rep H' d v → u D (σ.set i (some v)) H') : tSeq (tAsg ta (gName i)) u D σ H := h H (Same.refl H) _ k
theorem set_lst (h : Deeps t σ H ds) (hz : ds.length ≤ 1000) (k : ∀ H' l, Same H (less1 H' l) → RepL H' l ds → u D (σ.set i (some (.ref l))) H') : tSeq (tAsg (tLst t) (gName i)) u D σ H :=
  h H (Same.refl H) _ fun H1 xs s1 Rs => ⟨by rw [Rs.length]; exact le1000 hz, fun p hp => k _ p (fun b o e => less1_of (same_new hp (.lst xs)) hp b o (s1 b o e)) ⟨xs, upd_same, Rs.mono (less1_of (same_new hp _) hp)⟩⟩
theorem set_cat (h1 : Deep ta σ H (.lst ds)) (h2 : Deep tb σ H (.lst es)) (hz : ds.length + es.length ≤ 1000) (k : ∀ H' l, Same H (less1 H' l) → RepL H' l (ds ++ es) → u D (σ.set i (some (.ref l))) H') : tSeq (tAsg (tOp rCat ta tb) (gName i)) u D σ H :=
  h1 H (Same.refl H) _ fun H2 v s2 R => h2 H2 s2 _ fun H3 w s3 R2 => by
    have R' := R.mono s3
    simp only [Rep] at R' R2
    obtain ⟨a, xs, rfl, ha, r1⟩ := R'
    obtain ⟨b, ys, rfl, hb, r2⟩ := R2
    have rr := r1.append r2
    exact ⟨a, b, xs, ys, rfl, rfl, ha, hb, by rw [r1.length, r2.length]; exact le1000 hz, fun p hp => k _ p (fun b o e => less1_of (same_new hp (.lst (xs ++ ys))) hp b o (s3 b o (s2 b o e))) ⟨xs ++ ys, upd_same, rr.mono (less1_of (same_new hp _) hp)⟩⟩
theorem app_deep {K : PySem.W.Frag} (hv : σ[i]? = some (some (.ref l))) (R : RepL H l ds) (h : DeepA l ta σ H d) (hz : ds.length < 1000) (k : ∀ H', Same (less1 H l) H' → (∀ B, Same B (less1 H l) → B l = none → Same B (less1 H' l)) → RepL H' l (ds ++ [d]) → u D σ H') : tSeq (tDrop (tBM K "list" rAppend (tVar i) (tCons ta tNil))) u D σ H := by
  obtain ⟨xs, h1, h2⟩ := R.ex
  refine ⟨_, hv, .inl ⟨rfl, xs, SqL.of h1⟩, h H (Same.refl H) _ fun H2 v s2 Rv => ⟨l, xs, v, rfl, rfl, s2 _ _ h1, by rw [h2.length]; exact small1000 (by omega), ?_⟩⟩
  have e : Same (less1 H2 l) (less1 (upd H2 l (.lst (xs ++ [v]))) l) := fun b o z => by
    unfold less1 at z ⊢
    by_cases eb : b = l
    · rw [if_pos eb] at z; cases z
    · rw [if_neg eb] at z ⊢; rw [upd_ne eb]; exact z
  refine k _ ((less1_same s2).trans less1_upd) (fun B sB hB => sB.trans ((less1_same s2).trans e)) ⟨xs ++ [v], upd_same, Reps.append ((h2.mono (less1_same s2)).mono e) ?_⟩
  simp only [Reps]
  exact ⟨v, [], rfl, Rv.mono e, rfl⟩
end
end L2

set_option maxHeartbeats 1000000
namespace L2
open PySem PySem.Spec PyProof.Rows
section
variable {X : Cx}
/-- two lists of the same texts are not unlike -/
theorem op_neL (hu : X.A.units < cLine) : OpR X (compareOp .NotEq) (fun x y H Q => ∃ (l b : Addr) (xs : List Str), x = .ref l ∧ y = .ref b ∧ SqL X.K H l (xs.map V.str) ∧ SqL X.K H b (xs.map V.str) ∧ Q (.bl false) H) := by
  intro pins s σ H x y v u Q I rx ry h
  obtain ⟨l, b, xs, rfl, rfl, hl, hb, q⟩ := h
  cases rx
  cases ry
  obtain ⟨its, r1, p1, _⟩ := I.list hl
  obtain ⟨its2, r2, p2, _⟩ := I.list hb
  have s1 := strs_of r1
  have s2 := strs_of r2
  have l1 := r1.length
  have l2 := r2.length
  have get : ∀ {xs : List Str} {us : List Value}, StrsAre us xs → ∀ j (hj : j < us.length), ∃ t, us[j] = Value.str (xs.getD j default) t := by
    intro xs us h
    induction h with
    | nil => intro j hj; simp at hj
    | cons x t _ ih =>
      intro j hj
      cases j with
      | zero => exact ⟨t, rfl⟩
      | succ j => obtain ⟨t', e⟩ := ih j (by simpa using hj); exact ⟨t', by simpa using e⟩
  refine SeqAt.RcNeAt.lists (e := fun _ => true) p1.isList p2.isList (by simp; omega) hu (fun j h1 h2 => ?_) X.prog X.w X.xe _ ?_
  · obtain ⟨t, e1⟩ := get s1 j (by simpa using h1)
    obtain ⟨t', e2⟩ := get s2 j (by simpa using h2)
    have e := SeqAt.EqAt.str_str (A := X.A.in1) (s := s) (xs.getD j default) t (xs.getD j default) t'
    rw [beq_self_eq_true] at e
    simpa [e1, e2] using e
  · have e : (!((List.range its.toArray.size).all fun _ => true)) = false := by simp
    rw [e]
    exact ⟨.bl false, H, I, rfl, q⟩
/-- l + m of lists that are read -/
theorem op_catQ : OpR X (binaryOp .Add) (fun x y H Q => ∃ (l b : Addr) (xs zs : List V), x = .ref l ∧ y = .ref b ∧ SqL X.K H l xs ∧ SqL X.K H b zs ∧ xs.length + zs.length ≤ sizeLine ∧ ∀ p, H p = none → Q (.ref p) (upd H p (.lst (xs ++ zs)))) := by
  intro pins s σ H x y v u Q I rx ry h
  obtain ⟨l, b, xs, zs, rfl, rfl, hl, hb, hz, q⟩ := h
  cases rx
  cases ry
  obtain ⟨its, r1, ⟨⟨c1, d1, dt1, sl1⟩, n1, e1, hc1, hd1, hdt1⟩, _⟩ := I.list hl
  obtain ⟨its2, r2, ⟨⟨c2, d2, dt2, sl2⟩, n2, e2, hc2, hd2, hdt2⟩, _⟩ := I.list hb
  simp only at hc1 hd1 hdt1 hc2 hd2 hdt2
  subst hc1 hd1 hdt1 hc2 hd2 hdt2
  refine concat_meets ⟨_, e1, rfl⟩ ⟨_, e2, rfl⟩ noFill_list_add seq_list_add PySem.F.slot_list_add PySem.F.entry_list_add (PySem.F.args_list_add_2 _ _) (list_addW l b its.toArray its2.toArray n1 n2 none none sl1 sl2 (by rw [List.size_toArray, List.size_toArray, ← r1.length, ← r2.length]; exact hz)) ⟨e1, e2, ?_⟩
  have ea : its.toArray ++ its2.toArray = (its ++ its2).toArray := by simp
  rw [ea]
  refine ⟨.ref s.heap.objs.size, _, I.laid (t' := s.toks) (o := .lst (xs ++ zs)) (fun b ob q => Heap.get?_push_of_some _ q) (Nat.le_refl _) ?_, rfl, q _ (I.hok.fresh (Nat.le_refl _))⟩
  exact ⟨by rw [List.length_append]; exact hz, _, 0, r1.append r2, Heap.get?_push_size _ rfl⟩
end
end L2

set_option maxHeartbeats 4000000
namespace L2
open PySem PySem.Spec PyProof.Rows

/-! ### a tuple has no keys -/
theorem attrQ_miss_tuple {prog : Program} {w : World} {A : Around} {E : Value → Shared → Prop} {s : Shared} {a : Addr} {o : Obj} {xs : Array Value} {k : Nat} {name : Str} {Q : Option Value → Shared → Prop}
    (hx : s.heap.get? a = some o) (hc : o.cls = .type "tuple") (hdat : o.data = .seq xs k) (hd : o.dict = none) (hmiss : typeLookup (.type "tuple") name = pure none) (hname : (["__module__", "__name__", "__qualname__", "__doc__", "__annotations__"] : List Str).contains name = false) (hA : A.handled = none)
    (h : ∀ h' tk e, Heap.NewExcOf s.heap h' e "AttributeError" → Q none { s with heap := h', toks := tk }) (hsz : name.length + 100 ≤ sizeLine := by size_fits) :
    wpAny (model prog w) A (getAttr? (.ref a) name) Q E s := by
  obtain ⟨c, dct, dat, sl⟩ := o
  simp only at hc hdat hd
  subst hc hdat hd
  obtain ⟨hp, g, d, tk, os⟩ := s
  have hT : ∀ tk', (⟨hp, g, d, tk', os⟩ : Shared).TypeIs (.ref a) "tuple" := fun _ => ⟨_, hx, rfl⟩
  have f1 := sub_AttributeError
  have f3 := F.slot_tuple_getattribute.lookup
  have f4 := F.slot_tuple_getattribute.bind (.ref a)
  have f5 := am_tuple_getattr_none
  unfold getAttr? getAttrBy? getAttrBy
  repeat (any_goals (first | assumption | exact hT _ | ((with_reducible show wpAny _ _ (call (Value.builtin "tuple.__getattribute__") _ _) _ _ _); refine call_meets F.slot_tuple_getattribute (hT _) am_entry_tuple_getattribute (F.args_tuple_getattribute_2 _ _) (meets_getattribute_miss_tuple a xs k sl name _ hmiss hname hsz) ⟨hx, hA, fun h' tk' e hx' => ?_⟩) | wp_step))
  obtain ⟨t', u', he⟩ := hx'.there
  show wpAny _ _ (getattributeRaised _ _ _ _ _ _ _) _ _ _
  unfold getattributeRaised
  repeat (any_goals (first | assumption | wp_step))
  exact h _ _ _ hx'.of
theorem tuple_keys_none : typeLookup (.type "tuple") "keys" = pure none := by rw [typeLookup_type, builtinLookup_eq_fast]; kernel_rfl
end L2

set_option maxHeartbeats 4000000
namespace L2
open PySem PySem.Spec PyProof.Rows

/-! ### dict(pairs): the loop that stores them -/
theorem plain_upd_loop : plainId "dict.update.loop" = true := by decide +kernel
theorem entry_upd_loop : entryFor table "dict.update.loop" = some Builtin.«dict.update.loop» := entryFor_of_fast (by kernel_rfl)
section
variable {prog : Program} {w : World} {K : Type} [DecidableEq K] {knd : PySem.KeyKind prog w K} {A : Around} {R : Result → Shared → Prop} {I d : Addr} {fp wr : List Addr} {n : Nat} {P : Nat → Value → Prop} {St : Nat → Heap → Prop}
def stAll (ks : Nat → K) (vs : Nat → Value) : Nat → Nat → List (K × Value) → List (K × Value)
  | _, 0, m => m
  | i, k + 1, m => stAll ks vs (i + 1) k (stored m (ks i) (vs i))
theorem len_stored (m : List (K × Value)) (k : K) (v : Value) : (stored m k v).length ≤ m.length + 1 := by
  unfold stored
  split
  · rw [List.length_map]; omega
  · simp
theorem codeAny_upd_loop (W : Walks prog w A.in1 I fp wr n P St) (bs : Nat → Addr) (ks : Nat → K) (us vs : Nat → Value) (hP : ∀ i v, P i v → v = .ref (bs i)) (hk : ∀ i, i < n → knd.is (ks i) (us i) = true) (hb : ∀ i, i < n → bs i ∉ wr ∧ bs i ≠ d) (hd : d ∉ fp) (hz : n ≤ sizeLine) :
    ∀ (k i : Nat) (s : Shared) (kvs : List (K × Value)) (t : Tok), n - i = k → i ≤ n → St i s.heap → kvs.length ≤ i → s.heap.DictOf knd d kvs → (∀ j, j < n → s.heap.IsTuple (bs j) #[us j, vs j]) →
    (∀ h' tk, h'.DictOf knd d (stAll ks vs i k kvs) → (∀ b o, b ∉ wr → b ≠ d → s.heap.get? b = some o → h'.get? b = some o) → R (.ok (.ret .none)) { s with heap := h', toks := tk }) →
    codeAny (model prog w) A (.builtin "dict.update.loop" ⟨[.ref d, .ref I, .int i t, .none], []⟩) R s := by
  have hdw : d ∉ wr := fun h => hd (W.sub _ h)
  intro k
  induction k with
  | zero =>
    intro i s kvs t hk' hi hst hl hm hT hR
    have hin : i = n := by omega
    subst hin
    refine codeAny_builtin entry_upd_loop ?_
    rw [Around.under_plainId plain_upd_loop _]
    show wpAny _ A.in1 (pyNext (.ref I) >>= _) _ _ s
    refine wpAny_bind (W.done s _ _ hst fun h' tk hk'' => ?_)
    show wpAny _ A.in1 (Builtin.Dict.addKeywords d [] >>= _) _ _ _
    refine wpAny_bind (wpAny_pure (wpAny_pure ?_))
    refine hR h' tk ?_ fun b o hbw _ e => hk'' b o hbw e
    obtain ⟨o, es, ep, ho, r⟩ := hm
    exact ⟨o, es, ep, hk'' d o hdw ho, r⟩
  | succ k ih =>
    intro i s kvs t hk' hi hst hl hm hT hR
    have hlt : i < n := by omega
    refine codeAny_builtin entry_upd_loop ?_
    rw [Around.under_plainId plain_upd_loop _]
    show wpAny _ A.in1 (pyNext (.ref I) >>= _) _ _ s
    refine wpAny_bind (W.item i s _ _ hlt hst fun v h' tk hPv hst' hk'' => ?_)
    obtain rfl := hP i v hPv
    have hm' : h'.DictOf knd d kvs := by
      obtain ⟨o, es, ep, ho, r⟩ := hm
      exact ⟨o, es, ep, hk'' d o hdw ho, r⟩
    have hT' : ∀ j, j < n → h'.IsTuple (bs j) #[us j, vs j] := fun j hj => by
      obtain ⟨o, ho, r⟩ := hT j hj
      exact ⟨o, hk'' _ _ (hb j hj).1 ho, r⟩
    obtain ⟨o, ho, hc, c, hdat⟩ := hT' i hlt
    refine wpAny_bind (wpAny_holding (wpAny_bind (wpAny_tryCatch ?_)))
    unfold Builtin.Dict.pairItems
    refine wpAny_bind (wpAny_typeOf (T := "tuple") ⟨_, ho, hc⟩ ?_)
    rw [if_pos (by decide)]
    refine wpAny_bind (wpAny_seqItems ho hdat (wpAny_pure ?_))
    refine wpAny_holding (wpAny_dictSet_pairs (hsz := by omega) (hk i hlt) hm' fun h2 hd2 hs2 => ?_)
    refine wpAny_pure ⟨plainId_quiet plain_upd_loop _, ih (i + 1) _ _ _ (by omega) hlt (W.frame _ _ _ hst' fun b hb' o' e => ?_) ?_ hd2 (fun j hj => ?_) fun h3 tk3 hd3 hk3 => ?_⟩
    · exact hs2.extBut b o' (fun h => hd (by rw [← h]; exact hb')) e
    · have := len_stored kvs (ks i) (vs i); omega
    · obtain ⟨o', ho', r⟩ := hT' j hj
      exact ⟨o', hs2.extBut _ _ (hb j hj).2 ho', r⟩
    · exact hR h3 tk3 hd3 fun b o' hbw hbd e => hk3 b o' hbw hbd (hs2.extBut b o' hbd (hk'' b o' hbw e))
end
end L2

set_option maxHeartbeats 4000000
namespace L2
open PySem PySem.Spec PyProof.Rows

/-! ### dict(pairs) -/
section
variable {prog : Program} {w : World} {K : Type} [DecidableEq K] {knd : PySem.KeyKind prog w K} {A : Around} {E : Value → Shared → Prop} {s : Shared}
theorem call_dict_pairs {a : Addr} {its : Array Value} {Q : Value → Shared → Prop} (bs : Nat → Addr) (ks : Nat → K) (us vs : Nat → Value) (hA : A.handled = none) (ht : s.heap.IsTuple a its) (hn : NoD s.heap a)
    (hP : ∀ (i : Nat) (v : Value), its[i]? = some v → v = .ref (bs i)) (hk : ∀ i, i < its.size → knd.is (ks i) (us i) = true) (hT : ∀ j, j < its.size → s.heap.IsTuple (bs j) #[us j, vs j]) (hz : its.size ≤ sizeLine)
    (h : ∀ h' tk, h'.DictOf knd s.heap.objs.size (stAll ks vs 0 its.size []) → (∀ b o, s.heap.get? b = some o → h'.get? b = some o) → Q (.ref s.heap.objs.size) { s with heap := h', toks := tk }) :
    wpAny (model prog w) A (call (.type "dict") [.ref a]) Q E s := by
  refine callType_codes (Q₁ := fun obj s₁ => obj = .ref s.heap.objs.size ∧ s₁ = { s with heap := s.heap.push { cls := .type "dict", data := .dict #[] } }) F.kt_called_dict (F.kt_typeCall_dict_1 _) F.entry_dict_init (kt_code_dict_new _ ⟨rfl, rfl⟩) ?_
  rintro obj s₁ ⟨rfl, rfl⟩
  have hnew : (s.heap.push { cls := .type "dict", data := .dict #[] }).DictOf knd s.heap.objs.size [] := Heap.DictOf.new s.heap
  have up : ∀ b o, s.heap.get? b = some o → (s.heap.push { cls := .type "dict", data := .dict #[] }).get? b = some o := fun b o e => Heap.get?_push_of_some _ e
  have low : ∀ b o, s.heap.get? b = some o → b ≠ s.heap.objs.size := fun b o e => Nat.ne_of_lt (Heap.lt_size e)
  refine ⟨hnew.typeIs, F.args_dict_init_2 _ _, ?_⟩
  unfold Builtin.«dict.__init__»
  refine wpAny_bind ?_
  unfold Builtin.Dict.selfAndRest
  refine wpAny_bind (wpAny_notOrdered_dict hnew.typeIs ?_)
  show wpAny _ _ (pure (s.heap.objs.size, [Value.ref a])) _ _ _
  refine wpAny_pure ?_
  show wpAny _ _ (Builtin.Dict.updateFrom "dict.__init__" s.heap.objs.size (.ref a) [] .none) _ _ _
  unfold Builtin.Dict.updateFrom
  obtain ⟨o, ho, hc, n, hdat⟩ := ht
  obtain ⟨o', ho', hd⟩ := hn
  obtain rfl : o = o' := Option.some.inj (ho.symm.trans ho')
  refine wpAny_bind (wpAny_typeOf (T := "tuple") ⟨_, up _ _ ho, hc⟩ ?_)
  rw [if_pos (by decide)]
  refine wpAny_bind (attrQ_miss_tuple (A := A.in1.in1) (up _ _ ho) hc hdat hd tuple_keys_none (by decide +kernel) hA fun h1 tk1 e1 X1 => ?_)
  rw [if_pos (show (none : Option Value).isNone = true from rfl)]
  refine wpAny_bind (wpAny_rule ?_)
  have t1 : h1.IsTuple a its := ⟨o, X1.keeps _ _ (up _ _ ho), hc, n, hdat⟩
  refine wpAny_bind (wpAny_pyIter_tuple t1 ?_)
  have hl1 : s.heap.objs.size < h1.objs.size := by
    obtain ⟨q, _, _, hq, _⟩ := hnew
    exact Heap.lt_size (X1.keeps _ _ hq)
  have k1 : ∀ b q, s.heap.get? b = some q → (h1.push { cls := .type "tuple_iterator", data := .fields #[.ref a, .int 0 0] }).get? b = some q := fun b q e => Heap.get?_push_of_some _ (X1.keeps _ _ (up _ _ e))
  have lt1 : ∀ b q, s.heap.get? b = some q → b ≠ h1.objs.size := fun b q e => Nat.ne_of_lt (Nat.lt_trans (Heap.lt_size e) hl1)
  refine wpAny_pure ⟨plainId_quiet plain_upd_loop _, codeAny_upd_loop (knd := knd) (n := its.size) (Walks.tuple (A := A.in1.in1) hA h1.objs.size a (lt1 _ _ ho) its) bs ks us vs hP hk (fun i hi => ?_) ?_ hz its.size 0 _ [] 0 (by omega) (Nat.zero_le _) ?_ (Nat.le_refl 0) ?_ (fun j hj => ?_) fun h' tk hd' hk' => ?_⟩
  · obtain ⟨q, hq, _⟩ := hT i hi
    exact ⟨by simpa using lt1 _ _ hq, low _ _ hq⟩
  · have := low _ _ ho
    simp only [List.mem_cons, List.mem_nil_iff, or_false, not_or]
    exact ⟨Nat.ne_of_lt hl1, fun e => this e.symm⟩
  · exact ⟨⟨_, Heap.get?_push_size _ rfl, rfl, rfl⟩, o, k1 _ _ ho, hc, n, hdat⟩
  · obtain ⟨q, es, ep, hq, r⟩ := hnew
    exact ⟨q, es, ep, Heap.get?_push_of_some _ (X1.keeps _ _ hq), r⟩
  · obtain ⟨q, hq, r⟩ := hT j hj
    exact ⟨q, k1 _ _ hq, r⟩
  · exact ⟨rfl, h h' tk hd' fun b q e => hk' b q (by simpa using lt1 _ _ e) (low _ _ e) (k1 _ _ e)⟩
end
end L2

set_option maxHeartbeats 4000000
namespace L2
open PySem PySem.Spec PyProof.Rows

theorem putK_add {m : List (Key × V)} {k : Key} {v : V} (h : k ∉ m.map (·.1)) : putK m k v = m ++ [(k, v)] := by
  unfold putK
  rw [if_neg]
  intro e
  rw [List.any_eq_true] at e
  obtain ⟨p, hp, e⟩ := e
  exact h (List.mem_map.mpr ⟨p, hp, of_decide_eq_true e⟩)
theorem kv_all {ks : Nat → Key} {vs : Nat → Value} : ∀ (l : List (Key × V)) (i : Nat) (m : List (Key × V)) (m' : List (Key × Value)), KV m m' → (∀ (j : Nat) (p : Key × V), l[j]? = some p → p.1 = ks (i + j) ∧ RelV p.2 (vs (i + j))) →
    ((m ++ l).map (·.1)).Nodup → KV (m ++ l) (stAll ks vs i l.length m')
  | [], i, m, m', r, _, _ => by rw [List.append_nil]; exact r
  | p :: l, i, m, m', r, h, nd => by
    obtain ⟨e, rv⟩ := h 0 p rfl
    have hk : ks i ∉ m.map (·.1) := by
      rw [List.map_append, List.nodup_append] at nd
      intro hm
      exact nd.2.2 _ hm _ (List.mem_map.mpr ⟨p, List.mem_cons_self, rfl⟩) e.symm
    have r2 : KV (m ++ [p]) (stored m' (ks i) (vs i)) := by
      have z := KV.put r (ks i) rv
      rw [putK_add hk] at z
      rwa [show (ks i, p.2) = p from by rw [show ks i = p.1 from e.symm]] at z
    have := kv_all l (i + 1) (m ++ [p]) _ r2 (fun j q hq => by have := h (j + 1) q (by simpa using hq); rwa [show i + (j + 1) = i + 1 + j by omega] at this) (by simpa using nd)
    rw [List.append_assoc] at this
    exact this
section
variable {X : Cx}
/-- dict(t), t a tuple of pairs, keys that differ -/
theorem call_dictP (hc : X.calm = true) : CallR X (.type "dict") (fun xs H Q => ∃ (a : Addr) (ps : List (Addr × Key × V)), xs = [.ref a] ∧ H a = some (.tup (ps.map fun p => V.ref p.1)) ∧ (∀ p ∈ ps, H p.1 = some (.tup [kV p.2.1, p.2.2])) ∧
    (ps.map (·.2.1)).Nodup ∧ ∀ d, H d = none → Q (.ref d) (upd H d (.dK (ps.map (·.2))))) := by
  intro pins s σ H xs us Q I r h
  obtain ⟨a, ps, rfl, ha, hp, nd, q⟩ := h
  obtain ⟨u, rfl, ru⟩ := vals1 r
  cases ru
  obtain ⟨z, its, rv, tp, no⟩ := (show ObjOk X.prog X.w H s.heap a (.tup (ps.map fun p => V.ref p.1)) from I.hok a _ ha)
  have hlen : ps.length = its.length := by have := rv.length; rwa [List.length_map] at this
  have two : ∀ i : Nat, ∃ y : Value × Value, ∀ p, ps[i]? = some p → RelV (kV p.2.1) y.1 ∧ RelV p.2.2 y.2 ∧ s.heap.IsTuple p.1 #[y.1, y.2] := fun i => by
    cases e : ps[i]? with
    | none => exact ⟨(.none, .none), fun p hp => nomatch hp⟩
    | some p =>
      obtain ⟨_, us, ru, t2, _⟩ := (show ObjOk X.prog X.w H s.heap p.1 (.tup [kV p.2.1, p.2.2]) from I.hok _ _ (hp p (List.mem_of_getElem? e)))
      obtain ⟨u1, u2, rfl, r1, r2⟩ := vals2 ru
      exact ⟨(u1, u2), fun p' e' => by cases e'; exact ⟨r1, r2, t2⟩⟩
  obtain ⟨f, hf⟩ := Classical.axiomOfChoice two
  have at' : ∀ i, i < its.toArray.size → ∃ p, ps[i]? = some p := fun i hi => ⟨ps[i]'(by rw [hlen]; simpa using hi), List.getElem?_eq_getElem _⟩
  refine call_dict_pairs (knd := mixKind X.prog X.w) (its := its.toArray) (fun i => ((ps[i]?).map (·.1)).getD a) (fun i => ((ps[i]?).map (·.2.1)).getD (.inl 0)) (fun i => (f i).1) (fun i => (f i).2) (I.ok.hd hc) tp no
    (fun i v hv => ?_) (fun i hi => ?_) (fun j hj => ?_) (by rw [List.size_toArray, ← hlen]; rwa [List.length_map] at z) fun h' tk dd kp => ?_
  · have hv' : its[i]? = some v := by simpa using hv
    have hi : i < ps.length := by rw [hlen]; exact (List.getElem?_eq_some_iff.mp hv').1
    obtain ⟨u', hu', r'⟩ := Vals.get (i := i) (x := V.ref ps[i].1) rv (by rw [List.getElem?_map, List.getElem?_eq_getElem hi]; rfl)
    obtain rfl : u' = v := Option.some.inj (hu'.symm.trans hv')
    cases r'
    show Value.ref _ = Value.ref _
    rw [List.getElem?_eq_getElem hi]; rfl
  · obtain ⟨p, e⟩ := at' i hi
    rw [e]
    exact kV_is (hf i p e).1
  · obtain ⟨p, e⟩ := at' j hj
    rw [e]
    exact (hf j p e).2.2
  · have rel : KV (ps.map (·.2)) (stAll (fun i => ((ps[i]?).map (·.2.1)).getD (.inl 0)) (fun i => (f i).2) 0 its.toArray.size []) := by
      have := kv_all (ks := fun i => ((ps[i]?).map (·.2.1)).getD (.inl 0)) (vs := fun i => (f i).2) (ps.map (·.2)) 0 [] [] .nil (fun j p hj => ?_) (by simpa [Function.comp_def] using nd)
      · rw [List.nil_append, List.length_map, hlen] at this
        rwa [List.size_toArray]
      · rw [List.getElem?_map] at hj
        cases e : ps[j]? with
        | none => rw [e] at hj; cases hj
        | some p' =>
          rw [e] at hj
          obtain rfl : p'.2 = p := Option.some.inj hj
          refine ⟨?_, ?_⟩
          · show _ = ((ps[0 + j]?).map (·.2.1)).getD (.inl 0)
            rw [Nat.zero_add, e]; rfl
          · rw [Nat.zero_add]; exact (hf j p' e).2.1
    refine ⟨.ref s.heap.objs.size, _, I.laid (a := s.heap.objs.size) (o := .dK (ps.map (·.2))) (t' := tk) kp (Nat.le_refl _) (dk_new (by rw [List.length_map] at z ⊢; exact z) (beq_eq_false_iff_ne.mpr (Ne.symm (Nat.ne_of_lt I.big))) rel dd), rfl, q _ I.fresh⟩
end
end L2

set_option maxHeartbeats 4000000
namespace L2
open PySem PySem.Spec PyProof.Rows

theorem preSum_take (ns : List Int) : ∀ k, k ≤ ns.length → preSum (fun i => (ns[i]?).getD 0) k = (ns.take k).sum
  | 0, _ => by simp [preSum]
  | k + 1, h => by
    have e : ns[k]? = some ns[k] := List.getElem?_eq_getElem (by omega)
    rw [preSum, preSum_take ns k (by omega), List.take_add_one, List.sum_append, e]
    simp
theorem ints_at : ∀ {ns : List Int} {us : List Value}, Vals (ns.map V.int) us → ∀ (i : Nat) (v : Value), us[i]? = some v → ∃ t, v = .int ((ns[i]?).getD 0) t := fun {ns us} r i v e => by
  have hl := r.length
  have hi : i < ns.length := by rw [List.length_map] at hl; rw [hl]; exact (List.getElem?_eq_some_iff.mp e).1
  obtain ⟨u, hu, ru⟩ := Vals.get (i := i) (x := V.int ns[i]) r (by rw [List.getElem?_map, List.getElem?_eq_getElem hi]; rfl)
  obtain rfl : u = v := Option.some.inj (hu.symm.trans e)
  obtain ⟨t, rfl⟩ := (show ∃ t, u = Value.int ns[i] t from ru)
  exact ⟨t, by rw [List.getElem?_eq_getElem hi]; rfl⟩
section
variable {X : Cx}
/-- sum(l), l a list of ints -/
theorem call_sumL (hc : X.calm = true) : CallR X (.builtin "sum") (fun xs H Q => ∃ (a : Addr) (ns : List Int), xs = [.ref a] ∧ SqL X.K H a (ns.map V.int) ∧ Q (.int ns.sum) H) := by
  intro pins s σ H xs us Q I r h
  obtain ⟨a, ns, rfl, hq, q⟩ := h
  obtain ⟨u, rfl, ru⟩ := vals1 r
  cases ru
  obtain ⟨its, rv, p, hz⟩ := I.list hq
  have hl := p.isList
  have hlt : a < s.heap.objs.size := by obtain ⟨_, e, _⟩ := hl; exact Heap.lt_size e
  have hlen : its.length = ns.length := by have := rv.length; rw [List.length_map] at this; exact this.symm
  refine call_sum_walkAnyS (wpAny_pyIter_list hl ?_)
  refine ⟨s.heap.objs.size, [s.heap.objs.size, a], [s.heap.objs.size], _, its.toArray.size, _, _, fun i => (ns[i]?).getD 0, rfl, (Walks.list (A := X.A.in1) (I.ok.hd hc) _ a (Nat.ne_of_lt hlt) its.toArray).toS,
    ⟨⟨_, Heap.get?_push_size _ rfl, rfl, rfl⟩, hl.push _⟩, fun b hb => ?_, fun i v hP => ints_at rv i v (by simpa using hP), fun s' t' hm => ?_⟩
  · obtain ⟨_, e, _⟩ := hl
    rcases List.mem_cons.mp hb with rfl | hb
    · exact Heap.lt_size (Heap.get?_push_size _ rfl)
    · obtain rfl := List.mem_singleton.mp hb
      exact Heap.lt_size (Heap.get?_push_of_some _ e)
  · obtain ⟨h', g', d', tk', os'⟩ := s'
    have e1 : g' = s.gens := hm.gens
    have e2 : d' = s.drawn := hm.drawn
    have e3 : os' = s.os := hm.os
    subst e1 e2 e3
    rw [List.size_toArray, hlen, preSum_take ns _ (Nat.le_refl _), List.take_length]
    exact ⟨.int ns.sum, H, I.kept fun b o e => hm.heap b o (fun hb => absurd (Heap.lt_size e) ((List.mem_singleton.mp hb) ▸ Nat.lt_irrefl _)) (Heap.get?_push_of_some _ e), ⟨t', rfl⟩, q⟩
end
end L2

set_option maxHeartbeats 4000000
namespace L2
open PySem PySem.Spec PyProof.Rows PySem.W

section
variable {X : Cx} {pins : List (Addr × Obj)} {σ : St} {H : Hp} {s : Shared}
/-- a tracked list is written anew, the frame's own names stay -/
theorem Inv.setList {D : Addr} {ys0 ys : List V} {its : List Value} {c : Nat} {h' : Heap} {m : Str → Option Value} (I : Inv X pins σ H s) (hm : s.heap.Ns X.env.locals m) (hD : H D = some (.lst ys0)) (rv : Vals ys its) (hz : ys.length ≤ sizeLine)
    (F : h'.Ns X.env.locals m) (k : ∀ b o, b ≠ X.env.locals → b ≠ D → s.heap.get? b = some o → h'.get? b = some o) (e : h'.get? D = some { cls := .type "list", data := .seq its.toArray c }) : Inv X pins σ (upd H D (.lst ys)) { s with heap := h' } := by
  have nl : ∀ b v, H b = some v → b ≠ X.env.locals := fun b v q z => by rw [z, I.free] at q; cases q
  have nD : ∀ b, H b = none → b ≠ D := fun b q z => by rw [z, hD] at q; cases q
  have nT : ∀ b v, H b = some v → v ≠ .lst ys0 → b ≠ D := fun b v q n z => by rw [z, hD] at q; cases q; exact n rfl
  refine I.step (g' := s.gens) (d' := s.drawn) (t' := s.toks) (ch := []) (fun b hb => by cases hb) (fun b o hL _ _ q n => k b o hL (nD b n) q) (fun b o hL _ _ q n => ⟨o.slots, k b o hL (nD b n) q⟩) (fun b o _ q n => by rw [upd_ne (nD b n)]; exact n) (fun b o _ q => ?_)
    (fun b xs q => by rw [upd_ne (nT b _ q nofun)]; exact q) (fun b o v q => by rw [upd_ne (nT b _ q nofun)]; exact q) (fun b ps q => ⟨#[], by rw [upd_ne (nT b _ q nofun), q]; simp⟩) (fun m' hm' => by rw [ns_one hm' hm]; exact F) (fun b v q => ?_) I.bare
  · by_cases hb : b = X.env.locals
    · subst hb
      obtain ⟨o', _, _, q', _⟩ := F
      exact ⟨o', q'⟩
    · by_cases hd : b = D
      · subst hd; exact ⟨_, e⟩
      · exact ⟨o, k b o hb hd q⟩
  · by_cases hb : b = D
    · subst hb
      rw [upd_same] at q
      cases q
      exact ⟨hz, its, c, rv, e⟩
    · rw [upd_ne hb] at q
      refine (I.hok b v q).stay (fun c w' hc q' => ?_) (fun c q' => by rw [upd_ne (nT c _ q' nofun)]; exact q') fun c xs q' => by rw [upd_ne (nT c _ q' nofun)]; exact q'
      rcases hc with z | z
      · subst z; exact k c w' (nl c v q) hb q'
      · exact k c w' (nl c _ z) (nT c _ z nofun) q'
/-- a tracked list of tuples that begin with texts, all unlike, is sorted where it lies -/
theorem lsort_wp {A : Around} {E : Value → Shared → Prop} {l : Addr} {ps : List TK} {Q : Value → Shared → Prop} (I : Inv X pins σ H s) (hq : H l = some (.lst (ps.map fun p => V.ref p.1))) (ht : ∀ p ∈ ps, H p.1 = some (.tup (.str p.2.1 :: p.2.2)))
    (nd : (ps.map (·.2.1)).Nodup) (h64 : ps.length < 64) (q : ∀ (qs : List TK) (h' : Heap), qs.Perm ps → qs.Pairwise tkLt → Inv X pins σ (upd H l (.lst (qs.map fun p => V.ref p.1))) { s with heap := h' } → Q .none { s with heap := h' }) :
    wpAny (model X.prog X.w) A (call (.builtin "list.sort") [.ref l]) Q E s := by
  obtain ⟨hz, its, n, rv, at0⟩ := (show ObjOk X.prog X.w H s.heap l (.lst (ps.map fun p => V.ref p.1)) from I.hok l _ hq)
  have ei := refs_of ps its rv
  subst ei
  obtain ⟨m, hm, _⟩ := I.loc
  have nL : l ≠ X.env.locals := fun z => by rw [z, I.free] at hq; cases hq
  have lne : ∀ p ∈ ps, p.1 ≠ l ∧ p.1 ≠ X.env.locals := fun p hp => by
    refine ⟨fun z => ?_, fun z => ?_⟩
    · have t := ht p hp
      rw [z, hq] at t
      cases t
    · have t := ht p hp
      rw [z, I.free] at t
      cases t
  by_cases few : ps.length < 2
  · refine wpAny_call_entry slot_list_sort ⟨_, at0, rfl⟩ entry_list_sort (list_sort_few at0 (by simpa using few) fun hp ep k2 e2 => ⟨_, rfl, ?_⟩) (args_list_sort _)
    refine q ps hp (List.Perm.refl _) ?_ (I.setList hm hq (vals_refs ps) hz (hm.at' fun o e => k2 _ o (Ne.symm nL) e) (fun b o _ hb z => k2 b o hb z) e2)
    match ps, few with
    | [], _ => exact .nil
    | [p], _ => exact List.pairwise_singleton _ _
  · have hlen : (ps.map fun p => Value.ref p.1).length = ps.length := List.length_map _
    have F0 : Fr (Att.noObjs s.heap) X.env.locals s.heap m := Att.fr_all hm
    generalize hN : (allNews (Att.noObjs s.heap) s.heap X.env.locals).filter (fun p => decide (p.1 ≠ l)) = nw
    have N0 : News (Att.noObjs s.heap) X.env.locals s.heap nw := fun p hp => by rw [← hN] at hp; exact news_all p (List.mem_filter.mp hp).1
    have nl0 : ∀ p ∈ nw, p.1 ≠ l := fun p hp => by rw [← hN] at hp; exact of_decide_eq_true (List.mem_filter.mp hp).2
    refine wpAny_call_entry slot_list_sort ⟨_, at0, rfl⟩ entry_list_sort (kat_list_sort F0 N0 at0 nL (Att.noObjs_get _ _) nl0 (by rw [hlen]; omega) (by rw [hlen]; exact h64) fun e1 h' F' N' => ?_) (args_list_sort _)
    have keep : ∀ (g : Heap) (x : Obj), News (Att.noObjs s.heap) X.env.locals g ((l, x) :: nw) → ∀ b o, b ≠ X.env.locals → b ≠ l → s.heap.get? b = some o → g.get? b = some o := fun g x N b o hb hl e =>
      (N (b, o) (List.mem_cons_of_mem _ (by rw [← hN]; exact List.mem_filter.mpr ⟨mem_allNews hb (Att.noObjs_get _ _) e, decide_eq_true hl⟩))).1
    have kp := keep h' _ N'
    have atv : ∀ i, i < ps.length → (ps.map fun p => Value.ref p.1).getD i .none = Value.ref (ps.getD i (0, default, [])).1 := fun i hi => by
      simp [List.getD, hi]
    have item : ∀ i, i < ps.length → ∃ (o : Obj) (us : List Value) (n : Nat) (t : Tok), h'.get? (ps.getD i (0, default, [])).1 = some o ∧ o.cls = .type "tuple" ∧ o.data = .seq (Value.str (ps.getD i (0, default, [])).2.1 t :: us).toArray n := fun i hi => by
      have hm' : ps.getD i (0, default, []) ∈ ps := by
        have e : ps.getD i (0, default, []) = ps[i] := by simp [List.getD, hi]
        rw [e]; exact List.getElem_mem hi
      obtain ⟨o, us, n, t, e, c, d⟩ := tup_at I (ht _ hm')
      exact ⟨o, us, n, t, kp _ o (lne _ hm').2 (lne _ hm').1 e, c, d⟩
    have firsts : ∀ (qs : List TK), (∀ p ∈ qs, p ∈ ps) → ∃ fs : List Value, KatTups h' (qs.map fun p => Value.ref p.1) fs ∧ fs.length = qs.length ∧ ∀ v ∈ fs, ∃ x t, v = Value.str x t := by
      intro qs
      induction qs with
      | nil => intro _; exact ⟨[], KatTups.nil, rfl, by simp⟩
      | cons p qs ih =>
        intro hs
        obtain ⟨fs, t1, t2, t3⟩ := ih fun x hx => hs x (List.mem_cons_of_mem _ hx)
        have hp := hs p List.mem_cons_self
        obtain ⟨o, us, n, t, e, c, d⟩ := tup_at I (ht _ hp)
        refine ⟨Value.str p.2.1 t :: fs, KatTups.cons (kp _ o (lne _ hp).2 (lne _ hp).1 e) c d (by simp) t1, by simp [t2], fun v hv => ?_⟩
        rcases List.mem_cons.mp hv with rfl | hv
        · exact ⟨_, _, rfl⟩
        · exact t3 v hv
    obtain ⟨fs, t1, t2, t3⟩ := firsts ps fun p hp => hp
    refine kat_kind (T := .type "str") (s := { s with heap := h' }) t1 (by rw [t2]; omega) (fun v hv => ?_) (by decide) ?_
    · obtain ⟨x, t, rfl⟩ := t3 v hv
      exact Looks.of_pure rfl
    rw [hlen]
    have O : Ord (kas_ask X.prog X.w A.in1 (tuples' (Value.type "str" != Value.type "tuple")) (ps.map fun p => Value.ref p.1)) (fun i j => decide ((ps.getD i (0, default, [])).2.1.cps.toList < (ps.getD j (0, default, [])).2.1.cps.toList)) ps.length { s with heap := h' } := by
      have unlike : ∀ i j, i < ps.length → j < ps.length → i ≠ j → (ps.getD i (0, default, [])).2.1 ≠ (ps.getD j (0, default, [])).2.1 := fun i j hi hj hij e => by
        have ei : ps.getD i (0, default, []) = ps[i] := by simp [List.getD, hi]
        have ej : ps.getD j (0, default, []) = ps[j] := by simp [List.getD, hj]
        rw [ei, ej] at e
        exact hij ((List.getElem_inj (h₀ := by simpa using hi) (h₁ := by simpa using hj) nd).mp (by simpa using e))
      refine ⟨fun i j C hi hj hij hC => ?_, fun i j k h1 h2 => ?_, fun i j hi hj hij h1 => ?_, fun i j h1 => ?_⟩
      · show wpAny _ _ (keyLt' _ _ _) C _ _
        rw [atv i hi, atv j hj]
        obtain ⟨o, us, n, t, e, c, d⟩ := item i hi
        obtain ⟨o2, us2, n2, t2', e2, c2, d2⟩ := item j hj
        refine kat_lt (s := { s with heap := h' }) e d e2 d2 ?_
        show KatLex _ _ _ _ _ _ ((Value.str _ t, Value.str _ t2') :: _) 0 _
        refine kat_cons (wpAny_eqBool_str ?_)
        rw [decide_eq_false (unlike i j hi hj hij)]
        exact kat_no (oneLt_str hC)
      · exact decide_eq_true (List.lt_trans (of_decide_eq_true h1) (of_decide_eq_true h2))
      · exact decide_eq_true (lst_tot (of_decide_eq_false h1) fun e => unlike i j hi hj hij (str_ext e))
      · exact decide_eq_false (List.lt_asymm (of_decide_eq_true h1))
    refine sort_ok O (by omega) fun p re up => ?_
    have outs : (p.toList.map fun i => (ps.map fun p => Value.ref p.1).getD i .none) = (p.toList.map fun i => ps.getD i (0, default, [])).map fun p => Value.ref p.1 := by
      rw [List.map_map]
      refine List.map_congr_left fun i hi => ?_
      have hl2 : p.toList.Perm (List.range ps.length) := by simpa using Array.perm_iff_toList_perm.mp re.perm
      exact atv i (List.mem_range.mp ((List.Perm.mem_iff hl2).mp hi))
    rw [outs]
    refine KasFin.intro (news := (l, seqObj "list" #[] e1) :: nw) (g := fun o' => (l, o') :: nw) F' N' (.head nl0) fun h2 c F2 N2 => ?_
    have pq := pick_perm (d := (0, default, [])) rfl re
    have I2 := I.setList (D := l) (ys := (p.toList.map fun i => ps.getD i (0, default, [])).map fun p => V.ref p.1) hm hq (vals_refs _) (by rw [List.length_map, pq.length_eq]; simpa using hz) F2.ns (keep h2 _ N2) (N2 (l, _) List.mem_cons_self).1
    exact ⟨_, rfl, q _ h2 pq (pick_pairwise (R := tkLt) (fun i j _ _ h => (of_decide_eq_true h : (ps.getD i (0, default, [])).2.1.cps.toList < (ps.getD j (0, default, [])).2.1.cps.toList)) re up) I2⟩

/-! ### d.items(), and sorted of it -/
/-- the view -/
def ViewO (v d : Addr) : HO := .ext fun h => h.IsItemsView v d
theorem mt_items : MtR X "dict.items" (fun x xs H Q => ∃ d kvs, x = .ref d ∧ xs = [] ∧ H d = some (.dK kvs) ∧ ∀ v, H v = none → Q (.ref v) (upd H v (ViewO v d))) := by
  intro pins s σ H x xs u us Q I rx rv h
  obtain ⟨d, kvs, rfl, rfl, hd, q⟩ := h
  cases rx
  cases rv
  obtain ⟨z, hdm, vs, rel, dd⟩ := dk_of I.hok hd
  refine call_meetsIn PySem.F.slot_dict_items dd.typeIs PySem.F.entry_dict_items (PySem.F.args_dict_items_1 _) (meets_dict_items (mixKind X.prog X.w) d hdm) ⟨⟨vs, dd⟩, ?_⟩
  refine ⟨.ref s.heap.objs.size, _, I.laid (t' := s.toks) (a := s.heap.objs.size) (o := ViewO s.heap.objs.size d) (fun b u q => Heap.get?_push_of_some _ q) (Nat.le_refl _) ?_, rfl, q _ I.fresh⟩
  exact ⟨⟨_, Heap.get?_push_size _ rfl, rfl, rfl⟩, ⟨_, Heap.get?_push_size _ rfl⟩, fun h1 h2 ⟨o, e, r⟩ k => ⟨o, k o e, r⟩⟩
/-- many tuples are tracked at once -/
def lays (H : Hp) (rs : List TK) : Hp := fun b => match rs.find? (fun r => decide (r.1 = b)) with | some r => some (.tup (.str r.2.1 :: r.2.2)) | none => H b
theorem lays_out {rs : List TK} {b : Addr} (h : ∀ r ∈ rs, r.1 ≠ b) : lays H rs b = H b := by
  unfold lays
  rw [List.find?_eq_none.mpr (fun r hr e => h r hr (of_decide_eq_true e))]
theorem lays_in {rs : List TK} (nd : (rs.map (·.1)).Nodup) {r : TK} (hr : r ∈ rs) : lays H rs r.1 = some (.tup (.str r.2.1 :: r.2.2)) := by
  unfold lays
  cases e : rs.find? (fun x => decide (x.1 = r.1)) with
  | none => exact absurd (decide_eq_true rfl) (List.find?_eq_none.mp e r hr)
  | some x =>
    have hx := List.mem_of_find?_eq_some e
    have e1 : x.1 = r.1 := of_decide_eq_true (List.find?_some (p := fun x : TK => decide (x.1 = r.1)) e)
    obtain ⟨i, hi, rfl⟩ := List.getElem_of_mem hx
    obtain ⟨j, hj, rfl⟩ := List.getElem_of_mem hr
    have : i = j := (List.getElem_inj (h₀ := by simpa using hi) (h₁ := by simpa using hj) nd).mp (by simpa using e1)
    subst this
    rfl
theorem Inv.lays {h' : Heap} {tk : Nat} {rs : List TK} (I : Inv X pins σ H s) (k : ∀ b u, s.heap.get? b = some u → h'.get? b = some u) (nd : (rs.map (·.1)).Nodup) (hp : ∀ r ∈ rs, s.heap.objs.size ≤ r.1)
    (new : ∀ r ∈ rs, ObjOk X.prog X.w (L2.lays H rs) h' r.1 (.tup (.str r.2.1 :: r.2.2))) : Inv X pins σ (L2.lays H rs) { s with heap := h', toks := tk } := by
  have out : ∀ b, b < s.heap.objs.size → L2.lays H rs b = H b := fun b hb => lays_out fun r hr e => absurd hb (Nat.not_lt.mpr (e ▸ hp r hr))
  refine I.un (t' := tk) ⟨fun b u q _ _ _ => k b u q, fun b u q _ _ _ => ⟨u.slots, k b u q⟩, fun b u q n _ => by rw [out b (Heap.lt_size q)]; exact n, fun b u q _ => ⟨u, k b u q⟩, fun b xs q => by rw [out b (I.hok.lt q)]; exact q, fun b u xs q => by rw [out b (I.hok.lt q)]; exact q,
    fun b ps q => ⟨#[], by rw [out b (I.hok.lt q), q]; simp⟩⟩ fun b u e => ?_
  by_cases hb : ∃ r ∈ rs, r.1 = b
  · obtain ⟨r, hr, rfl⟩ := hb
    rw [lays_in nd hr] at e
    cases e
    exact new r hr
  · rw [lays_out fun r hr z => hb ⟨r, hr, z⟩] at e
    exact (I.hok b u e).stay (fun c v _ q => k c v q) (fun c q => by rw [out c (I.hok.lt q)]; exact q) fun c xs q => by rw [out c (I.hok.lt q)]; exact q
/-- sorted(d.items()), the keys texts -/
theorem call_sortedI (hc : X.calm = true) : CallR X (.builtin "sorted") (fun xs H Q => ∃ (v d : Addr) (m : List (Str × V)), xs = [.ref v] ∧ H v = some (ViewO v d) ∧ H d = some (.dK (m.map fun p => ((Sum.inr p.1 : Key), p.2))) ∧ m.length < 64 ∧
    ∀ (H' : Hp) (l : Addr) (qs : List TK), Same H H' → H l = none → (∀ r ∈ qs, H' r.1 = some (.tup (.str r.2.1 :: r.2.2)) ∧ H r.1 = none) → H' l = some (.lst (qs.map fun r => V.ref r.1)) → (qs.map (·.2)).Perm (m.map fun p => (p.1, [p.2])) → qs.Pairwise tkLt → Q (.ref l) H') := by
  intro pins s σ H xs us Q I r h
  obtain ⟨v, d, m, rfl, hv, hd, h64, q⟩ := h
  obtain ⟨u, rfl, ru⟩ := vals1 r
  cases ru
  obtain ⟨vw, _, _⟩ := (show ObjOk X.prog X.w H s.heap v (ViewO v d) from I.hok v _ hv)
  obtain ⟨z, hdm, vs, rel, dd⟩ := dk_of I.hok hd
  have hvl : vs.length = m.length := by have := rel.length; rw [List.length_map] at this; exact this.symm
  obtain ⟨ep, da⟩ := dd.dictAt
  have ndk : (vs.map (·.1)).Nodup := by obtain ⟨_, _, _, _, _, _, _, nd⟩ := da; exact nd
  refine Calls.call_function_entry kind_sorted plain_sorted entry_sorted (args_sorted1 _) ?_
  unfold Builtin.«sorted»
  refine wpAny_bind (m := checkCount "sorted" 1 1 _) (wpAny_pure (wpAny_bind (kdx_collect (A := X.A.in1) (knd := mixKind X.prog X.w) (kvs := vs) (ep := ep) (I.ok.hd hc) vw da (by rw [← rel.length]; exact z) fun h' tk as hk hl hG => ?_)))
  have hlm : as.length = m.length := by omega
  have e1 : ((as.zip m).map fun p => ((p.1, p.2.1, [p.2.2]) : TK)).map (·.1) = as := by
    rw [List.map_map]
    have : ((fun x : TK => x.1) ∘ fun p : Addr × Str × V => ((p.1, p.2.1, [p.2.2]) : TK)) = Prod.fst := rfl
    rw [this, List.map_fst_zip (by omega)]
  have e2 : ((as.zip m).map fun p => ((p.1, p.2.1, [p.2.2]) : TK)).map (·.2) = m.map fun p => (p.1, [p.2]) := by
    rw [List.map_map]
    have : ((fun x : TK => x.2) ∘ fun p : Addr × Str × V => ((p.1, p.2.1, [p.2.2]) : TK)) = (fun p : Str × V => (p.1, [p.2])) ∘ Prod.snd := rfl
    rw [this, ← List.map_map, List.map_snd_zip (by omega)]
  have e3 : ((as.zip m).map fun p => ((p.1, p.2.1, [p.2.2]) : TK)).map (fun r => V.ref r.1) = as.map V.ref := by
    have : (fun r : TK => V.ref r.1) = V.ref ∘ (fun r : TK => r.1) := rfl
    rw [this, ← List.map_map, e1]
  have pairs : ∀ r ∈ (as.zip m).map fun p => ((p.1, p.2.1, [p.2.2]) : TK), ∃ (x : Str) (y : V) (u w' : Value), r.2 = (x, [y]) ∧ RelV (.str x) u ∧ RelV y w' ∧ h'.get? r.1 = some { cls := .type "tuple", data := .seq #[u, w'] } := fun r hr => by
    obtain ⟨⟨a, x, y⟩, hp, rfl⟩ := List.mem_map.mp hr
    obtain ⟨j, hj⟩ := List.getElem?_of_mem hp
    obtain ⟨ha, hm⟩ := List.getElem?_zip_eq_some.mp hj
    obtain ⟨key, k, w', g1, g2, g3⟩ := hG.pairs j a ha
    obtain ⟨y', hy, ry⟩ := rel.at g1
    rw [List.getElem?_map, hm] at hy
    have hy' : ((Sum.inr x : Key), y) = (k, y') := Option.some.inj hy
    injection hy' with k1 k2
    subst k1 k2
    exact ⟨x, y, key, w', rfl, kV_of g2, ry, g3⟩
  generalize hrs : (as.zip m).map (fun p => ((p.1, p.2.1, [p.2.2]) : TK)) = rs at e1 e2 e3 pairs
  have lrs : rs.length = m.length := by rw [← hrs, List.length_map, List.length_zip]; omega
  have nda : (rs.map (·.1)).Nodup := by rw [e1]; exact hG.rise.imp fun h => Nat.ne_of_lt h
  have above : ∀ r ∈ rs, s.heap.objs.size ≤ r.1 := fun r hr => Nat.le_of_lt (hG.above r.1 (by rw [← e1]; exact List.mem_map_of_mem hr))
  have tup : ∀ (Hx : Hp) (r : TK), r ∈ rs → ObjOk X.prog X.w Hx h' r.1 (.tup (.str r.2.1 :: r.2.2)) := fun Hx r hr => by
    obtain ⟨x, y, u, w', er, r1, r2, g⟩ := pairs r hr
    rw [er]
    exact ⟨by show 2 ≤ sizeLine; rw [sizeLine_eq]; decide, [u, w'], .cons r1 (.cons r2 .nil), ⟨_, g, rfl, 0, rfl⟩, ⟨_, g, rfl⟩⟩
  have I1 : Inv X pins σ (lays H rs) { s with heap := h', toks := tk } := I.lays hk nda above fun r hr => tup _ r hr
  have s1 : Same H (lays H rs) := fun b o e => by
    have ho : ∀ r ∈ rs, r.1 ≠ b := fun r hr z' => by
      have h1 := above r hr
      rw [z'] at h1
      exact absurd (I.hok.lt e) (Nat.not_lt.mpr h1)
    rw [lays_out ho]; exact e
  refine wpAny_bind (wpAny_newList ?_ (by rw [List.length_map, hlm, sizeLine_eq]; omega))
  have rvals : Vals (rs.map fun r => V.ref r.1) (as.map Value.ref) := by
    have := vals_refs rs
    have e4 : rs.map (fun p => Value.ref p.1) = as.map Value.ref := by
      rw [← e1, List.map_map]; rfl
    rwa [e4] at this
  have I2 := I1.lnew (t' := tk) (its := as.map Value.ref) rvals (by rw [List.length_map, lrs, sizeLine_eq]; omega)
  have fr : lays H rs h'.objs.size = none := I1.fresh
  have s2 : Same (lays H rs) (upd (lays H rs) h'.objs.size (.lst (rs.map fun r => V.ref r.1))) := same_new fr _
  have inr : ∀ r ∈ rs, lays H rs r.1 = some (.tup (.str r.2.1 :: r.2.2)) := fun r hr => lays_in nda hr
  have hnone : H h'.objs.size = none := by
    cases e : H h'.objs.size with
    | none => rfl
    | some o => have := s1 _ _ e; rw [fr] at this; cases this
  have nd2 : (rs.map (·.2.1)).Nodup := by
    have e5 : rs.map (·.2.1) = m.map (·.1) := by
      have := congrArg (List.map Prod.fst) e2
      simpa [List.map_map, Function.comp_def] using this
    have e6 : (m.map (·.1)).map (Sum.inr : Str → Key) = vs.map (·.1) := by
      rw [← rel.keys, List.map_map, List.map_map]; rfl
    rw [e5]
    rw [← e6] at ndk
    rw [List.Nodup, List.pairwise_map] at ndk
    exact ndk.imp fun h e => h (by rw [e])
  refine wpAny_bind (wpAny_holding (lsort_wp (A := X.A.in1) (l := h'.objs.size) (ps := rs) I2 upd_same (fun r hr => s2 _ _ (inr r hr)) nd2 (by omega) fun qs h2 pq pw I3 => ?_))
  refine wpAny_pure ⟨_, rfl, .ref h'.objs.size, _, I3, rfl, q _ _ qs (fun b o e => ?_) hnone (fun r hr => ⟨?_, I.hok.fresh (above r (pq.mem_iff.mp hr))⟩) upd_same (by rw [← e2]; exact pq.map _) pw⟩
  · have := s2 _ _ (s1 _ _ e)
    rw [upd_ne (fun z' => by rw [z', hnone] at e; cases e)]
    exact this
  · have hm := pq.mem_iff.mp hr
    rw [upd_ne (ne_of_none (inr r hm) fr)]
    exact s2 _ _ (inr r hm)
end
end L2

set_option maxHeartbeats 1000000
namespace L2
open PySem PySem.Spec PyProof.Rows

/-! ### deep values that are the same -/
theorem eq_tup {A : Around} {s : Shared} {l b : Addr} {items items2 : Array Value} (hl : s.heap.IsTuple l items) (hb : s.heap.IsTuple b items2) (hsz : items.size = items2.size) (hu : A.units < cLine)
    (he : ∀ j (h1 : j < items.size) (h2 : j < items2.size), SeqAt.EqAt A.in1 s items[j] items2[j] true) : SeqAt.EqAt A s (.ref l) (.ref b) true := by
  by_cases h : l = b
  · subst h; exact SeqAt.EqAt.same _
  · have r := SeqAt.RcAt.tuples (e := fun _ => true) hl hb hu he
    have e : ((List.range (min items.size items2.size)).all (fun _ => true) && items.size == items2.size) = true := by simp [hsz]
    rw [e] at r
    exact SeqAt.EqAt.of_refs h r
def EqOk (n : Nat) (d : Dv) : Prop := ∀ (X : Cx) (pins : List (Addr × Obj)) (σ : St) (H : Hp) (s : Shared), Inv X pins σ H s → ∀ (A : Around) (v w : V) (a b : Value), A.units + n < cLine → Rep H d v → Rep H d w → RelV v a → RelV w b → SeqAt.EqAt A s a b true
theorem EqOk.mono {m n : Nat} {d : Dv} (h : EqOk m d) (l : m ≤ n) : EqOk n d := fun X pins σ H s I A v w a b hu => h X pins σ H s I A v w a b (by omega)
theorem eqok_int {i : Int} : EqOk 0 (.int i) := fun X pins σ H s I A v w a b hu r1 r2 q1 q2 => by
  simp only [Rep] at r1 r2
  subst r1 r2
  obtain ⟨t, rfl⟩ := (show ∃ t, a = Value.int i t from q1)
  obtain ⟨t', rfl⟩ := (show ∃ t, b = Value.int i t from q2)
  have e := SeqAt.EqAt.int_int (A := A) (s := s) i t i t'
  rwa [beq_self_eq_true] at e
theorem eqok_str {x : Str} : EqOk 0 (.str x) := fun X pins σ H s I A v w a b hu r1 r2 q1 q2 => by
  simp only [Rep] at r1 r2
  subst r1 r2
  obtain ⟨t, rfl⟩ := (show ∃ t, a = Value.str x t from q1)
  obtain ⟨t', rfl⟩ := (show ∃ t, b = Value.str x t from q2)
  have e := SeqAt.EqAt.str_str (A := A) (s := s) x t x t'
  rwa [beq_self_eq_true] at e
section
variable {X : Cx} {pins : List (Addr × Obj)} {σ : St} {H : Hp} {s : Shared}
/-- the things of two tuples of one deep value -/
theorem same_items (I : Inv X pins σ H s) {A : Around} {n : Nat} {ds : List Dv} {vs ws : List V} {its its2 : List Value} (h : ∀ d ∈ ds, EqOk n d) (hu : A.units + n < cLine) (rs1 : Reps H ds vs) (rs2 : Reps H ds ws) (rv1 : Vals vs its) (rv2 : Vals ws its2) :
    its.toArray.size = its2.toArray.size ∧ ∀ j (h1 : j < its.toArray.size) (h2 : j < its2.toArray.size), SeqAt.EqAt A s its.toArray[j] its2.toArray[j] true := by
  have l1 := rs1.length
  have l2 := rs2.length
  have l3 := rv1.length
  have l4 := rv2.length
  refine ⟨by simp; omega, fun j h1 h2 => ?_⟩
  have hj : j < its.length := by simpa using h1
  have hj2 : j < its2.length := by simpa using h2
  obtain ⟨u, hu1, ru⟩ := Vals.get (i := j) (x := vs[j]'(by omega)) rv1 (List.getElem?_eq_getElem _)
  obtain ⟨u2, hu2, ru2⟩ := Vals.get (i := j) (x := ws[j]'(by omega)) rv2 (List.getElem?_eq_getElem _)
  obtain ⟨d, hd, Rd⟩ := rs1.get (i := j) (v := vs[j]'(by omega)) (List.getElem?_eq_getElem _)
  obtain ⟨d2, hd2, Rd2⟩ := rs2.get (i := j) (v := ws[j]'(by omega)) (List.getElem?_eq_getElem _)
  rw [hd] at hd2
  cases hd2
  have e1 : its.toArray[j] = u := by
    rw [List.getElem?_eq_getElem hj] at hu1
    simpa using Option.some.inj hu1
  have e2 : its2.toArray[j] = u2 := by
    rw [List.getElem?_eq_getElem hj2] at hu2
    simpa using Option.some.inj hu2
  rw [e1, e2]
  exact h d (List.mem_of_getElem? hd) X pins σ H s I A _ _ _ _ hu Rd Rd2 ru ru2
end
theorem eqok_tup {n : Nat} {ds : List Dv} (h : ∀ d ∈ ds, EqOk n d) : EqOk (n + 1) (.tup ds) := fun X pins σ H s I A v w a b hu r1 r2 q1 q2 => by
  simp only [Rep] at r1 r2
  obtain ⟨l, vs, rfl, h1, rs1⟩ := r1
  obtain ⟨b', ws, rfl, h2, rs2⟩ := r2
  cases q1
  cases q2
  obtain ⟨its, rv1, p1, _⟩ := I.tuple (SqT.of h1)
  obtain ⟨its2, rv2, p2, _⟩ := I.tuple (SqT.of h2)
  have hu' : A.in1.units + n < cLine := by show A.units + 1 + n < cLine; omega
  obtain ⟨z, q⟩ := same_items I (A := A.in1) h hu' rs1 rs2 rv1 rv2
  exact eq_tup p1 p2 z (by omega) q
section
variable {X : Cx}
theorem op_neD (hu : X.A.units + 8 < cLine) : OpR X (compareOp .NotEq) (fun x y H Q => ∃ ds : List Dv, Rep H (.tup ds) x ∧ Rep H (.tup ds) y ∧ (∀ d ∈ ds, EqOk 6 d) ∧ Q (.bl false) H) := by
  intro pins s σ H x y v u Q I rx ry h
  obtain ⟨ds, r1, r2, hd, q⟩ := h
  simp only [Rep] at r1 r2
  obtain ⟨l, vs, rfl, h1, rs1⟩ := r1
  obtain ⟨b', ws, rfl, h2, rs2⟩ := r2
  cases rx
  cases ry
  obtain ⟨its, rv1, p1, _⟩ := I.tuple (SqT.of h1)
  obtain ⟨its2, rv2, p2, _⟩ := I.tuple (SqT.of h2)
  have hu' : X.A.in1.units + 6 < cLine := by show X.A.units + 1 + 6 < cLine; omega
  obtain ⟨z, w⟩ := same_items I (A := X.A.in1) hd hu' rs1 rs2 rv1 rv2
  refine SeqAt.RcNeAt.tuples (e := fun _ => true) p1 p2 (by omega) w X.prog X.w X.xe _ ?_
  have e : (!((List.range (min its.toArray.size its2.toArray.size)).all (fun _ => true) && its.toArray.size == its2.toArray.size)) = false := by simp [z]
  rw [e]
  exact ⟨.bl false, H, I, rfl, q⟩
theorem op_eqD (hu : X.A.units + 8 < cLine) : OpR X (compareOp .Eq) (fun x y H Q => ∃ ds : List Dv, Rep H (.tup ds) x ∧ Rep H (.tup ds) y ∧ (∀ d ∈ ds, EqOk 6 d) ∧ Q (.bl true) H) := by
  intro pins s σ H x y v u Q I rx ry h
  obtain ⟨ds, r1, r2, hd, q⟩ := h
  simp only [Rep] at r1 r2
  obtain ⟨l, vs, rfl, h1, rs1⟩ := r1
  obtain ⟨b', ws, rfl, h2, rs2⟩ := r2
  cases rx
  cases ry
  obtain ⟨its, rv1, p1, _⟩ := I.tuple (SqT.of h1)
  obtain ⟨its2, rv2, p2, _⟩ := I.tuple (SqT.of h2)
  have hu' : X.A.in1.units + 6 < cLine := by show X.A.units + 1 + 6 < cLine; omega
  obtain ⟨z, w⟩ := same_items I (A := X.A.in1) hd hu' rs1 rs2 rv1 rv2
  refine SeqAt.RcAt.tuples (e := fun _ => true) p1 p2 (by omega) w X.prog X.w X.xe _ ?_
  have e : ((List.range (min its.toArray.size its2.toArray.size)).all (fun _ => true) && its.toArray.size == its2.toArray.size) = true := by simp [z]
  rw [e]
  exact ⟨.bl true, H, I, rfl, q⟩
end
theorem hu8_of {A : Around} {k : Nat} (hr : Room k A) : A.units + 8 < cLine := by have := hr.un; omega

/-! ### a def with defaults -/
structure FunD (K : PySem.W.Frag) (x qual : Str) (st : Stmt) (f : Addr) (fd : FuncData) (dV : Value) : Prop where
  ex : ∃ (oc : Value) (od : Option Addr) (kV doc pm : Value) (an : Option Addr) (cdv ct : Value) (osl : Array (Option Value)),
    fd = PySem.W.fnOf x qual (defArgs st) (defBody st) (defScope st) dV kV doc pm an cdv ct ∧ K.lookup f = some ⟨oc, od, .func fd, osl⟩ ∧ PySem.W.codeIn K cdv qual = true
section
variable {P : Program} {w : World} {K : PySem.W.Frag} {mg : Str → Option Value} {base : Heap}
theorem FunD.ok {x qual : Str} {st : Stmt} {f : Addr} {fd : FuncData} {dV : Value} {N ps : List Str} {k : Nat} {sp : Sp} (F : FunD K x qual st f fd dV) (S : FnScope N ps (defScope st)) (len : ∀ vs H Q E, sp vs H Q E → vs.length = ps.length)
    (hbody : ∀ (cdv : Value) (A : Around) (outer : List Env) (s : Shared) (H : Hp) (vs : List V) (Q : VK) (E : XK), Room k (A.deeper (PyProof.Rows.envOfC qual (defScope st) s.heap.objs.size f cdv)) → sp vs H Q E →
      ∃ t, PSs (cxOf CX0 P w K mg base N qual (defScope st) f cdv A outer s H E).nox (defBody st) t ∧ t { nx := fun _ H' => Q .non H', rt := Q } (start N vs) H) : FnOk P w K mg base CX0 (k + 1) f fd ps sp := by
  obtain ⟨oc, od, kV, doc, pm, an, cdv, ct, osl, rfl, lk, hcd⟩ := F.ex
  refine fn_of lk hcd S len fun A outer s H vs Q E hr hsp => ?_
  obtain ⟨t, h, q⟩ := hbody cdv A outer s H vs Q E hr hsp
  exact ⟨t, h.nox, q⟩
theorem FunD.binds {x qual : Str} {st : Stmt} {f T : Addr} {fd : FuncData} {ps : List Str} {ds : List Value} {oT : Obj} {its : Array Value} {n : Nat} (F : FunD K x qual st f fd (.ref T)) (lT : K.lookup T = some oT) (dT : oT.data = .seq its n)
    (h : ∀ (kV doc pm : Value) (an : Option Addr) (cdv ct : Value) (us : List Value), (us ++ ds).length = ps.length → ∃ kk : Option (Array Value) → Sem (List (Str × Value)), bindArgs (PySem.W.fnOf x qual (defArgs st) (defBody st) (defScope st) (.ref T) kV doc pm an cdv ct) ⟨us, []⟩ = seqItems? (.ref T) >>= kk ∧ kk (some its) = pure (ps.zip (us ++ ds))) : Binds K fd ps ds := by
  obtain ⟨oc, od, kV, doc, pm, an, cdv, ct, osl, rfl, lk, hcd⟩ := F.ex
  intro s us hin hl
  obtain ⟨kk, h1, h2⟩ := h kV doc pm an cdv ct us hl
  exact BindsTo.of_defaults (T := T) rfl (hin T oT lT) dT h1 h2
end
structure DefD (P : Program) (w : World) (K : PySem.W.Frag) (mg : Str → Option Value) (base : Heap) (k : Nat) (x : Str) (ps : List Str) (sp : Sp) (dvs : List V) : Prop where
  ex : ∃ f fd ds, FnOk P w K mg base CX0 k f fd ps sp ∧ Binds K fd ps ds ∧ Vals dvs ds ∧ PySem.W.keepIn K (.ref f) = true ∧ mg x = some (.ref f)
theorem DefD.up {P : Program} {w : World} {K : PySem.W.Frag} {mg : Str → Option Value} {base : Heap} {j k : Nat} {x : Str} {ps : List Str} {sp : Sp} {dvs : List V} (d : DefD P w K mg base j x ps sp dvs) (h : j ≤ k) : DefD P w K mg base k x ps sp dvs :=
  let ⟨f, fd, ds, F, b, v, kp, m⟩ := d.ex
  ⟨f, fd, ds, F.mono h, b, v, kp, m⟩
theorem pe_defD {X : Cx} {k : Nat} {x : Str} {ps : List Str} {sp : Sp} {dvs : List V} {p pos : Pos} {e : Expr} {es : List Expr} {t : TA} (d : DefD X.prog X.w X.K X.mg X.base k x ps sp dvs) (hr : Room k X.A) (hg : Gl X x) (ha : PA X (e :: es) t) (hdb : (x == ("__debug__" : Str)) = false := by decide)
    (he : starEach (e :: es) X.env = (false, eval e X.env) :: starEach es X.env := by rfl) (hpl : (backTo pos (starEach es X.env)).any (·.1) = false := by rfl) : PE X (.Call (.Name x p) (e :: es) [] pos) (tCall sp dvs E0 t) := by
  obtain ⟨f, fd, ds, F, b, v, kp, m⟩ := d.ex
  exact pe_call F hr hg m kp b v pass0 ha hdb he hpl
end L2

set_option maxHeartbeats 1000000
namespace L2
open PySem PySem.Spec PyProof.Rows PySem.W

/-! ### z[::-1] of a text -/
theorem rev_list (x : Str) (u : Tok) : (Txt.sliceBy x none none (-1, u)).cps.toList = x.cps.toList.reverse := by
  rw [step_rev_list]
  have hx : x.length = x.cps.toList.length := by show x.cps.size = _; simp
  apply List.ext_getElem
  · simp [hx]
  · intro i h1 h2
    have hi : i < x.cps.size := by simpa [hx] using h1
    rw [List.getElem_map, List.getElem_range, List.getElem_reverse]
    have e : x.length - 1 - i < x.cps.size := by show x.cps.size - 1 - i < _; omega
    simp only [Array.getD, dif_pos e]
    simp [hx]
section
variable {X : Cx} {e st : Expr} {te : TE} {ts : TO} {p2 pos : Pos}
def tRev (te : TE) (ts : TO) : TE := fun σ H Q => te σ H fun x H1 => ts σ H1 fun l H2 => ∃ z, x = .str z ∧ l = some (-1) ∧ z.length ≤ sizeLine ∧ ∀ y : Str, y.cps.toList = z.cps.toList.reverse → Q (.str y) H2
theorem pe_rev (he : PE X e te) (hs : PO X (some st) ts) : PE X (.Subscript e (.Slice none none (some st) p2) pos) (tRev te ts) := by
  intro pins s σ H Q I h
  refine Subscript_ (thn (he pins s σ H _ I h) fun v s1 ⟨x, H1, I1, r1, q1⟩ => ?_)
  refine wpAny_Slice ?_
  rw [evalPart_none]
  refine wpAny_pure (wpAny_pure (thn (hs pins s1 σ H1 _ I1 q1) fun vu s3 ⟨u, H3, I3, pu, q3⟩ => ?_))
  obtain ⟨z, rfl, rfl, hz, q⟩ := q3
  obtain ⟨t, rfl⟩ := r1
  cases pu with
  | int j uj =>
    have I4 : Inv X pins σ H3 { s3 with heap := s3.heap.push { cls := .type "slice", data := .fields #[.none, .none, .int (-1) uj] } } := I3.kept (t' := s3.toks) fun b ob q => Heap.get?_push_of_some _ q
    show wpAny (model X.prog X.w) X.A (subscriptTail e (.Slice none none (some st) p2) (.str z t) (.ref s3.heap.objs.size)) (EP X pins σ Q) X.xe { s3 with heap := s3.heap.push { cls := .type "slice", data := .fields #[.none, .none, .int (-1) uj] } }
    refine tail_any (ops := [.ref s3.heap.objs.size, .str z t]) (typeIs_str _ _ _) slot_str_getitem.lookup ?_ (by with_unfolding_all rfl)
    refine wpAny_getItem_str_slice (l := none) (u := none) (st := some (-1, uj)) ⟨_, Heap.get?_push_size _ rfl, rfl, rfl⟩ rfl (post_val_or_str ?_)
    exact ⟨Nat.le_trans (Txt.sliceBy_le z _ _ (-1, uj) (show (-1 : Int) ≠ 0 by decide)) hz, fun t' c => ⟨.str _, H3, I4.tok _, ⟨_, rfl⟩, q _ (rev_list z uj)⟩⟩
end
section
variable {X : Cx}
/-! ### dict(d) of a dict, and != of two dicts of the same things -/
theorem call_dictC : CallR X (.type "dict") (fun xs H Q => ∃ (d : Addr) (m : List (Key × V)), xs = [.ref d] ∧ Rd H d (.dK m) ∧ ∀ e, H e = none → Q (.ref e) (upd H e (.dK m))) := by
  intro pins s σ H xs us Q I r h
  obtain ⟨d, m, rfl, hd, q⟩ := h
  obtain ⟨u, rfl, ru⟩ := vals1 r
  cases ru
  obtain ⟨z, hdm, vs, rel, dd⟩ := dk_rd I.hok hd
  refine kt_call_dict (knd := mixKind X.prog X.w) hdm dd (by rw [← rel.length]; exact z) fun h' dd' sb => ?_
  refine ⟨.ref s.heap.objs.size, _, I.laid (t' := s.toks) (a := s.heap.objs.size) (o := .dK m) (fun b u e => ?_) (Nat.le_refl _) (dk_new z (beq_eq_false_iff_ne.mpr (Ne.symm (Nat.ne_of_lt I.big))) rel dd'), rfl, q _ I.fresh⟩
  rw [sb.2 b (Nat.ne_of_lt (Heap.lt_size e))]
  exact Heap.get?_push_of_some _ e
theorem hits_all {A : Around} {s : Shared} {kb : List (Key × Value)} : ∀ (l : List (Key × Value)), (∀ p ∈ l, ∃ y, valueAt kb p.1 = some y ∧ SeqAt.EqAt A s p.2 y true) → KeqHits A s kb l true
  | [], _ => .nil
  | (k, v) :: l, h => by
    obtain ⟨y, hy, he⟩ := h (k, v) List.mem_cons_self
    exact KeqHits.hit (e := true) (b := true) hy he (hits_all l fun p hp => h p (List.mem_cons_of_mem _ hp))
theorem val_of_mem : ∀ {m : List (Key × V)}, (m.map (·.1)).Nodup → ∀ {p : Key × V}, p ∈ m → valV m p.1 = some p.2
  | [], _, _, h => nomatch h
  | q :: m, nd, p, h => by
    rw [List.map_cons, List.nodup_cons] at nd
    rcases List.mem_cons.mp h with rfl | h
    · exact valV_pos rfl
    · exact (valV_neg (fun e => nd.1 (by rw [e]; exact List.mem_map_of_mem h))).trans (val_of_mem nd.2 h)
theorem op_neK (hu : X.A.units + 8 < cLine) : OpR X (compareOp .NotEq) (fun x y H Q => ∃ (a b : Addr) (m : List (Key × V)), x = .ref a ∧ y = .ref b ∧ Rd H a (.dK m) ∧ Rd H b (.dK m) ∧ (∀ p ∈ m, (∃ c, p.2 = .ref c) ∨ ∃ i, p.2 = .int i) ∧ Q (.bl false) H) := by
  intro pins s σ H x y v u Q I rx ry h
  obtain ⟨a, b, m, rfl, rfl, ha, hb, hm, q⟩ := h
  cases rx
  cases ry
  obtain ⟨z, hda, va, ra, da⟩ := dk_rd I.hok ha
  obtain ⟨_, hdb, vb, rb, db⟩ := dk_rd I.hok hb
  have nda : (va.map (·.1)).Nodup := by obtain ⟨_, _, _, _, _, _, _, _, nd⟩ := da; exact nd
  have ndm : (m.map (·.1)).Nodup := by rw [ra.keys]; exact nda
  have la := ra.length
  have lb := rb.length
  refine keq_ne (r := true) hda hdb da db (by omega) (fun _ => hits_all va fun p hp => ?_) ?_
  · obtain ⟨i, hi⟩ := List.getElem?_of_mem hp
    obtain ⟨k, w⟩ := p
    obtain ⟨x, hx, rx⟩ := ra.at hi
    have hmem : (k, x) ∈ m := List.mem_of_getElem? hx
    have hv := val_of_mem ndm hmem
    obtain ⟨y, hy, ry⟩ := RelO.some_of (v := x) (o := valueAt vb k) (by rw [← hv]; exact rb.val k)
    refine ⟨y, hy, ?_⟩
    rcases hm _ hmem with ⟨c, e⟩ | ⟨i, e⟩
    · have e' : x = .ref c := e
      subst e'
      cases rx
      cases ry
      exact SeqAt.EqAt.same _
    · have e' : x = .int i := e
      subst e'
      obtain ⟨t, rfl⟩ := (show ∃ t, w = Value.int i t from rx)
      obtain ⟨t', rfl⟩ := (show ∃ t, y = Value.int i t from ry)
      have e := SeqAt.EqAt.int_int (A := X.A.in1) (s := s) i t i t'
      rwa [beq_self_eq_true] at e
  · have e : (!(va.length == vb.length && true)) = false := by simp; omega
    rw [e]
    exact ⟨.bl false, H, I, rfl, q⟩
/-! ### products of greater numbers -/
theorem op_mulK : OpR X (binaryOp .Mult) (rI IntMulOk fun i j => .int (i * j)) := opI fun _ _ _ _ _ _ _ hc q => mul_int q hc
theorem bits_le {k : Int} {n : Nat} (h1 : -(2 ^ n) < k) (h2 : k < 2 ^ n) : Builtin.Int.intBits k ≤ n := by
  unfold Builtin.Int.intBits
  split
  · exact Nat.zero_le _
  · have hn : k.natAbs < 2 ^ n := by
      have e : ((2 ^ n : Nat) : Int) = (2 : Int) ^ n := by simp
      omega
    have : k.natAbs.log2 < n := by
      rcases Nat.eq_zero_or_pos k.natAbs with h0 | hp
      · rename_i hne
        have : k = 0 := Int.natAbs_eq_zero.mp h0
        simp [this] at hne
      · exact (Nat.log2_lt (Nat.ne_of_gt hp)).mpr hn
    omega
theorem mul_big {i j : Int} (h1 : -(2 ^ 1000) < i) (h2 : i < 2 ^ 1000) (h3 : -(2 ^ 1000) < j) (h4 : j < 2 ^ 1000) : IntMulOk i j := by
  have a := bits_le h1 h2
  have b := bits_le h3 h4
  unfold IntMulOk Builtin.Int.intTooBig
  have e : decide (((Builtin.Int.intBits i + Builtin.Int.intBits j : Nat) : Int) > (bitsLine : Int)) = false := decide_eq_false (by
    have : (bitsLine : Int) = 134217728 := by decide +kernel
    omega)
  simp only [Int.natCast_add] at e
  rw [e]
  simp
end
end L2

set_option maxHeartbeats 1000000
namespace L2
open PySem PySem.Spec PyProof.Rows PySem.W

/-! ### a set of texts: what its table keeps -/
theorem put_led (t : SetTable) (j : Nat) : (t.put j).1.led = t.led ∧ (t.put j).1.plain = t.plain := ⟨rfl, rfl⟩
theorem orStand_led (t : SetTable) (n : Nat) : (t.orStandIn n).led = t.led ∧ ((t.orStandIn n).plain = true → t.plain = true) := by
  unfold SetTable.orStandIn
  split
  · exact ⟨rfl, fun h => h⟩
  · exact ⟨rfl, fun h => by cases h⟩
theorem lay_led (t : SetTable) (es : Array (Int × Value)) (h : Int) (x : Value) : (layNew t es h x).2.1.led = t.led ∧ ((layNew t es h x).2.1.plain = true → t.plain = true) := by
  unfold layNew
  split
  · rename_i slot wd _
    obtain ⟨a, b⟩ := orStand_led (t.put slot).1 (SetTable.insertAt es (t.put slot).2 (h, x)).size
    exact ⟨a, b⟩
  · exact ⟨rfl, fun h => by cases h⟩
theorem relaid_led {t t' : SetTable} {hs : Array Int} {n : Nat} {o : Array Nat} (h : t.relaid hs n = some (t', o)) : t'.led = t.led ∧ t'.plain = t.plain := by
  unfold SetTable.relaid SetTable.laid at h
  cases e : SetTable.layClean (SetTable.sizeAbove n - 1) hs with
  | none => rw [e] at h; cases h
  | some ow =>
    rw [e] at h
    have h2 := Option.some.inj h
    injection h2 with h3 h4
    subst h3
    exact ⟨rfl, rfl⟩
theorem relay_led (t : SetTable) (es : Array (Int × Value)) (n : Nat) : (relayAll t es n).2.1.led = t.led ∧ ((relayAll t es n).2.1.plain = true → t.plain = true) := by
  unfold relayAll
  split
  · rename_i t' o h
    obtain ⟨a, b⟩ := relaid_led h
    dsimp only
    split
    · exact ⟨a, fun z => by rw [← b]; exact z⟩
    · exact ⟨rfl, fun z => by cases z⟩
  · exact ⟨rfl, fun z => by cases z⟩

def txtOf (e : Int × Value) : Str := match e.2 with | .str x _ => x | _ => default
/-- a set whose things are just these texts -/
def SetS (P : Program) (w : World) (h : Heap) (a : Addr) (xs : List Str) : Prop :=
  ∃ o es ep t, h.get? a = some o ∧ o.ExactSet ∧ o.data = .set es ep t ∧ ElemsOf (PySem.strKind P w) es.toList ∧ es.size < scanBound ∧ t.fits es.size = true ∧ t.led = (!w.params.followText "set-order") ∧ (t.plain = true → es.size = 0) ∧ (es.toList.map txtOf).Perm xs
section
variable {P : Program} {w : World} {A : Around} {E : Value → Shared → Prop} {s : Shared}
theorem txt_of_is {y : Str} {e : Int × Value} (h : (PySem.strKind P w).is y e.2 = true) : txtOf e = y := by
  obtain ⟨t, ht⟩ := Value.isStrOf_shape h
  unfold txtOf
  rw [ht]
theorem is_of_txt {e : Int × Value} (h : ∃ k, (PySem.strKind P w).is k e.2 = true) : (PySem.strKind P w).is (txtOf e) e.2 = true := by
  obtain ⟨k, hk⟩ := h
  rw [txt_of_is hk]; exact hk
theorem SetS.put {h : Heap} {a : Addr} {o : Obj} {es es' : Array (Int × Value)} {ep : Nat} {t t' : SetTable} {xs : List Str} (ho : h.get? a = some o) (hex : o.ExactSet) (hd : o.data = .set es ep t) (hel : ElemsOf (PySem.strKind P w) es'.toList)
    (hb : es'.size < scanBound) (hf : t'.fits es'.size = true) (hl : t'.led = (!w.params.followText "set-order")) (hp : t'.plain = true → es'.size = 0) (hx : (es'.toList.map txtOf).Perm xs) :
    (h.update a (Obj.putSet es' t')).get? a = some { o with data := .set es' (ep + 1) t' } ∧ SetS P w (h.update a (Obj.putSet es' t')) a xs := by
  have hg : (h.update a (Obj.putSet es' t')).get? a = some { o with data := .set es' (ep + 1) t' } := by
    have := Heap.get?_update_self (Obj.putSet es' t') ho (by rw [putSet_of es' t' hd]; rfl)
    rw [putSet_of es' t' hd] at this; exact this
  exact ⟨hg, _, es', ep + 1, t', hg, hex, rfl, hel, hb, hf, hl, hp, hx⟩
theorem add_tail {g : Bool → Sem Unit} (hg : ∀ (b : Bool) (s₁ : Shared) (Q' : Unit → Shared → Prop), Q' () s₁ → wpAny (model P w) A (g b) Q' E s₁) {a : Addr} {o : Obj} {es es1 : Array (Int × Value)} {ep : Nat} {t t2 : SetTable} {xs : List Str} {wd : Bool} {R : Option Bool → Shared → Prop}
    (ho : s.heap.get? a = some o) (hex : o.ExactSet) (hd : o.data = .set es ep t) (hel : ElemsOf (PySem.strKind P w) es1.toList) (hb : es1.size < scanBound) (hf : t2.fits es1.size = true) (hl : t2.led = (!w.params.followText "set-order")) (hp : t2.plain = false) (hx : (es1.toList.map txtOf).Perm xs)
    (h : ∀ h', Heap.SameBut a s.heap h' → SetS P w h' a xs → R (some true) { s with heap := h' }) :
    wpAny (model P w) A (do
        storeSet a es1 t2
        if (!wd && t2.tooFull) = true then do
            g (relayAll t2 es1 (SetTable.grown es1.size)).2.2
            storeSet a (relayAll t2 es1 (SetTable.grown es1.size)).1 (relayAll t2 es1 (SetTable.grown es1.size)).2.1
            pure (some true)
          else pure (some true)) R E s := by
  refine wpAny_bind (wpAny_storeSet_of ho hd ?_ (fits_of_scanBound hb))
  obtain ⟨ho1, hS1⟩ := SetS.put (P := P) (w := w) ho hex hd hel hb hf hl (fun z => by rw [hp] at z; cases z) hx
  have sb1 := Heap.SameBut.update s.heap a (Obj.putSet es1 t2)
  split
  · have pm := relayAll_perm t2 es1 (SetTable.grown es1.size)
    have ft := relayAll_fits t2 es1 (SetTable.grown es1.size)
    have ld := relay_led t2 es1 (SetTable.grown es1.size)
    generalize relayAll t2 es1 (SetTable.grown es1.size) = Rl at pm ft ld ⊢
    obtain ⟨es2, t3, gave⟩ := Rl
    dsimp only at pm ft ld ⊢
    have sz : es2.size = es1.size := by rw [← Array.length_toList, pm.length_eq, Array.length_toList]
    refine wpAny_bind (hg _ _ _ (wpAny_bind (wpAny_storeSet_of ho1 rfl ?_ (fits_of_scanBound (by rw [sz]; exact hb)))))
    obtain ⟨_, hS2⟩ := SetS.put (P := P) (w := w) (xs := xs) ho1 hex rfl (hel.perm pm) (by rw [sz]; exact hb) ft (by rw [ld.1]; exact hl) (fun z => by have := ld.2 z; rw [hp] at this; cases this) ((pm.map _).trans hx)
    exact wpAny_pure (h _ (sb1.trans (Heap.SameBut.update _ a _)) hS2)
  · exact wpAny_pure (h _ sb1 hS1)
theorem set_add_str {a : Addr} {xs : List Str} {y : Str} {tk : Tok} {Q : Bool → Shared → Prop} (hS : SetS P w s.heap a xs) (hlen : xs.length + 1 < scanBound)
    (h : ∀ h' b, Heap.SameBut a s.heap h' → SetS P w h' a (if y ∈ xs then xs else xs ++ [y]) → Q b { s with heap := h' }) : wpAny (model P w) A (setAddHashed a (.str y tk) ((PySem.strKind P w).hash y)) Q E s := by
  obtain ⟨o, es, ep, t, ho, hex, hd, hel, hb, hf, hl, hpl, hx⟩ := hS
  have hkey : (PySem.strKind P w).is y (.str y tk) = true := strKind_is _ _ _ _
  have hsc : (Value.str y tk).scannable = true := rfl
  have sz : es.size = xs.length := by rw [← hx.length_eq, List.length_map, Array.length_toList]
  unfold setAddHashed setAddHashedIn
  refine wpAny_holding (wpAny_bind (wpAny_setState_of ho hd hf ?_))
  dsimp only
  rw [byScan_of hsc hb hel]
  simp only [↓reduceIte]
  unfold setAddByScan
  refine wpAny_bind (wpAny_bind (wpAny_rule (wpAny_bind (wpAny_setScan_of hkey ho hd hf hel ?_))))
  cases hr : List.findIdx? (fun e => (PySem.strKind P w).is y e.2) es.toList with
  | some j =>
    dsimp only
    obtain ⟨hj, hpj, _⟩ := List.findIdx?_eq_some_iff_getElem.mp hr
    have hy : y ∈ xs := hx.mem_iff.mp (List.mem_map.mpr ⟨es.toList[j], List.getElem_mem hj, txt_of_is hpj⟩)
    have e : s = { s with heap := s.heap } := by cases s; rfl
    have q := h s.heap false (Heap.SameBut.refl a s.heap) (by rw [if_pos hy]; exact ⟨o, es, ep, t, ho, hex, hd, hel, hb, hf, hl, hpl, hx⟩)
    rw [← e] at q
    exact wpAny_pure (wpAny_pure q)
  | none =>
    dsimp only
    have hy : y ∉ xs := fun z => by
      obtain ⟨e, he, e1⟩ := List.mem_map.mp (hx.mem_iff.mpr z)
      have := List.findIdx?_eq_none_iff.mp hr e he
      rw [← e1, is_of_txt (hel.keys e he)] at this
      cases this
    rw [if_neg hy] at h
    have hgw : ∀ (b : Bool) {s₁ : Shared} {Q' : Unit → Shared → Prop}, Q' () s₁ → wpAny (model P w) A (match b with | true => rule "set.scan.the-table-gave-way" | false => pure ()) Q' E s₁ :=
      fun b s₁ Q' hq => by cases b <;> first | exact wpAny_pure hq | exact wpAny_rule hq
    have pm := layNew_perm t es ((PySem.strKind P w).hash y) (.str y tk)
    have ft := layNew_fits t es ((PySem.strKind P w).hash y) (.str y tk)
    have ld := lay_led t es ((PySem.strKind P w).hash y) (.str y tk)
    generalize layNew t es ((PySem.strKind P w).hash y) (.str y tk) = L at pm ft ld ⊢
    obtain ⟨es1, t1, wd, gave⟩ := L
    dsimp only at pm ft ld ⊢
    rw [Array.toList_push] at pm
    have hel1 : ElemsOf (PySem.strKind P w) es1.toList := (hel.push hkey hsc).perm pm
    have sz1 : es1.size = es.size + 1 := by rw [← Array.length_toList, pm.length_eq, List.length_append, Array.length_toList]; rfl
    have hb1 : es1.size < scanBound := by rw [sz1, sz]; exact hlen
    have hx1 : (es1.toList.map txtOf).Perm (xs ++ [y]) := by
      refine (pm.map txtOf).trans ?_
      rw [List.map_append]
      exact hx.append (List.Perm.refl _)
    refine wpAny_bind (hgw _ ?_)
    split
    · refine wpAny_bind ?_
      rw [hashByValue_scannable 8 hsc]
      refine wpAny_pure ?_
      refine add_tail ?_ ho hex hd hel1 hb1 (t2 := { t1 with plain := false }) (SetTable.fits_plain_off ft) (by rw [← hl]; exact ld.1) rfl hx1 ?_
      · intro b s₁ Q' hq; cases b <;> first | exact wpAny_pure hq | exact wpAny_rule hq
      · intro h' sb hS'; dsimp only; exact wpAny_pure (h h' true sb hS')
    · rename_i hnp
      refine wpAny_bind (wpAny_pure ?_)
      simp only [↓reduceIte]
      refine add_tail ?_ ho hex hd hel1 hb1 ft (by rw [← hl]; exact ld.1) (by cases z : t1.plain with | false => rfl | true => exact absurd z hnp) hx1 ?_
      · intro b s₁ Q' hq; cases b <;> first | exact wpAny_pure hq | exact wpAny_rule hq
      · intro h' sb hS'; dsimp only; exact wpAny_pure (h h' true sb hS')
end
end L2

set_option maxHeartbeats 3200000
namespace L2
open PySem PySem.Spec PyProof.Rows PySem.W

/-! ### set(l), l a list of texts -/
def uStep (acc : List Str) (y : Str) : List Str := if y ∈ acc then acc else acc ++ [y]
def uq (val : Nat → Str) (i : Nat) : List Str := ((List.range i).map val).foldl uStep []
theorem uq_succ (val : Nat → Str) (i : Nat) : uq val (i + 1) = uStep (uq val i) (val i) := by
  unfold uq
  rw [List.range_succ, List.map_append, List.foldl_append]
  rfl
theorem uq_len (val : Nat → Str) : ∀ i, (uq val i).length ≤ i
  | 0 => Nat.le_refl _
  | i + 1 => by
    have ih := uq_len val i
    rw [uq_succ]
    unfold uStep
    split
    · omega
    · rw [List.length_append, List.length_singleton]; omega
theorem uq_nodup (val : Nat → Str) : ∀ i, (uq val i).Nodup
  | 0 => List.nodup_nil
  | i + 1 => by
    rw [uq_succ]
    unfold uStep
    split
    · exact uq_nodup val i
    · rename_i h
      exact List.nodup_append.mpr ⟨uq_nodup val i, by simp, fun a ha b hb e => h (by rw [List.mem_singleton.mp hb] at e; rw [← e]; exact ha)⟩
theorem uq_mem (val : Nat → Str) (x : Str) : ∀ i, x ∈ uq val i ↔ ∃ j, j < i ∧ val j = x
  | 0 => ⟨(fun h => nomatch h), (fun ⟨j, h, _⟩ => absurd h (Nat.not_lt_zero _))⟩
  | i + 1 => by
    rw [uq_succ]
    unfold uStep
    have ih := uq_mem val x i
    constructor
    · intro h
      split at h
      · obtain ⟨j, hj, e⟩ := ih.mp h
        exact ⟨j, by omega, e⟩
      · rcases List.mem_append.mp h with h | h
        · obtain ⟨j, hj, e⟩ := ih.mp h
          exact ⟨j, by omega, e⟩
        · exact ⟨i, by omega, (List.mem_singleton.mp h).symm⟩
    · rintro ⟨j, hj, e⟩
      split
      · rename_i h
        by_cases hji : j = i
        · rw [← e, hji]; exact h
        · exact ih.mpr ⟨j, by omega, e⟩
      · by_cases hji : j = i
        · rw [← e, hji]; exact List.mem_append_right _ (List.mem_singleton.mpr rfl)
        · exact List.mem_append_left _ (ih.mpr ⟨j, by omega, e⟩)
section
variable {P : Program} {w : World} {A : Around} {R : Result → Shared → Prop} {I : Addr} {fp wr : List Addr} {G : Array GenState → Array GenState → Prop} {n : Nat} {Pv : Nat → Value → Prop} {St : Nat → Shared → Prop}
theorem SetS.at' {h h' : Heap} {a : Addr} {xs : List Str} (x : SetS P w h a xs) (k : ∀ o, h.get? a = some o → h'.get? a = some o) : SetS P w h' a xs := let ⟨o, es, ep, t, ho, r⟩ := x; ⟨o, es, ep, t, k o ho, r⟩
theorem set_loop (W : WalksS P w A.in1 I fp wr G n Pv St) (S : Addr) (hSf : S ∉ fp) (val : Nat → Str) (hval : ∀ i v, Pv i v → ∃ t, v = .str (val i) t) (hb : n + 1 < scanBound) :
    ∀ (k i : Nat) (s : Shared), n - i = k → i ≤ n → St i s → SetS P w s.heap S (uq val i) → (∀ s', Moved (S :: wr) G s s' → SetS P w s'.heap S (uq val n) → R (.ok (.ret .none)) s') →
      codeAny (model P w) A (.builtin "set.update.loop" ⟨[.ref S, .ref I], []⟩) R s := by
  have hSw : S ∉ wr := fun h => hSf (W.sub _ h)
  have more : ∀ b ∈ wr, b ∈ S :: wr := fun b hb => List.mem_cons_of_mem _ hb
  intro k
  induction k with
  | zero =>
    intro i s hk hi st hS fin
    obtain rfl : i = n := by omega
    refine codeAny_builtin F.entry_set_update_loop ?_
    rw [Around.under_plainId F.plain_set_update_loop _]
    show wpAny _ A.in1 (pyNext (.ref I) >>= _) _ _ s
    refine wpAny_bind (W.done s _ _ st fun s' hm => ?_)
    show wpAny _ A.in1 (ret Value.none) _ _ s'
    exact wpAny_pure (fin s' (hm.mono more) (hS.at' fun o e => hm.heap S _ hSw e))
  | succ k ih =>
    intro i s hk hi st hS fin
    have hlt : i < n := by omega
    refine codeAny_builtin F.entry_set_update_loop ?_
    rw [Around.under_plainId F.plain_set_update_loop _]
    show wpAny _ A.in1 (pyNext (.ref I) >>= _) _ _ s
    refine wpAny_bind (W.item i s _ _ hlt st fun v s' hP st' hm => ?_)
    obtain ⟨t, rfl⟩ := hval i v hP
    have hS' : SetS P w s'.heap S (uq val i) := hS.at' fun o e => hm.heap S _ hSw e
    show wpAny _ A.in1 (holding [Value.str (val i) t] (setAdd S (.str (val i) t)) >>= _) _ _ s'
    refine wpAny_bind (wpAny_holding ?_)
    unfold setAdd
    refine wpAny_holding (wpAny_bind ((PySem.strKind P w).pyHash (k := val i) (strKind_is _ _ _ _) ?_))
    have room : (uq val i).length + 1 < scanBound := by have := uq_len val i; omega
    refine set_add_str (s := { s' with toks := s'.toks + 1 }) hS' room fun h' b sb hS2 => ?_
    have hSi : SetS P w h' S (uq val (i + 1)) := by rw [uq_succ]; exact hS2
    refine wpAny_pure ⟨plainId_quiet F.plain_set_update_loop _, ih (i + 1) _ (by omega) hlt (W.frame _ s' _ _ st' (Nat.le_succ _) fun b hb o e => ?_) hSi fun s'' hm'' hS'' => ?_⟩
    · rw [sb.2 b (fun h : b = S => hSf (by rw [← h]; exact hb))]; exact e
    · refine fin s'' (Moved.trans W.gtrans ((hm.mono more).then_heap (Nat.le_succ _) fun b o hb e => ?_) hm'') hS''
      rw [sb.2 b (fun h : b = S => hb (by rw [h]; exact List.mem_cons_self))]; exact e
end
def freshO (w : World) : Obj := { cls := .type "set", dict := none, data := .set #[] 0 (.fresh 0 0 (!w.params.followText "set-order")) }
section
variable {P : Program} {w : World} {A : Around} {E : Value → Shared → Prop} {s : Shared}
theorem code_set_newL (a : Value) {Q₁ : Value → Shared → Prop} (h : Q₁ (.ref s.heap.objs.size) { s with heap := s.heap.push (freshO w) }) :
    codeAny (model P w) A (.call (.builtin "set.__new__") ⟨[.type "set", a], []⟩) (wants Q₁ E) s := by
  refine codeAny_of_tree ?_
  show wpAny _ A.in1 (do checkBuiltinCall "set.__new__" ⟨[.type "set", a], []⟩; again (.builtin "set.__new__" ⟨[.type "set", a], []⟩)) _ _ s
  refine wpAny_bind (wpAny_of_eq (PySem.F.newCall_set_1 a) (wpAny_pure ⟨plainId_quiet PySem.F.plain_set_new _, codeAny_builtin PySem.F.entry_set_new ?_⟩))
  rw [Around.under_plainId PySem.F.plain_set_new _]
  unfold Builtin.«set.__new__» Builtin.Frozenset.newClass
  have hsub := sub_set_self
  obtain ⟨hp, g, d, tk, os⟩ := s
  dsimp only
  wp_walk
  refine wpAny_askSetting (wpAny_pure ?_)
  dsimp only
  simp only [newObj]
  refine wpAny_bind (wpAny_alloc (wpAny_pure ?_))
  exact wpAny_pure h
theorem fresh_SetS (h : Heap) : SetS P w (h.push (freshO w)) h.objs.size [] :=
  ⟨_, #[], 0, _, Heap.get?_push_size _ rfl, ⟨rfl, rfl, rfl⟩, rfl, fun e he => by simp at he, by decide, rfl, rfl, fun _ => rfl, List.Perm.refl _⟩
theorem call_set_strs {l : Addr} {items : Array Value} {ys : List Str} {Q : Value → Shared → Prop} (hh : A.handled = none) (hl : s.heap.IsList l items) (hi : ∀ (i : Nat) (v : Value), items[i]? = some v → ∃ t, v = .str (ys.getD i default) t) (hb : items.size + 1 < scanBound)
    (h : ∀ (h' : Heap) (tk : Nat), SetS P w h' s.heap.objs.size (uq (fun i => ys.getD i default) items.size) → (∀ b o, b < s.heap.objs.size → s.heap.get? b = some o → h'.get? b = some o) → Q (.ref s.heap.objs.size) { s with heap := h', toks := tk }) :
    wpAny (model P w) A (call (.type "set") [.ref l]) Q E s := by
  obtain ⟨c, tl, hmro⟩ := PySem.F.called_set.mro
  have hmade := PySem.F.called_set.made
  have hsub := PySem.F.called_set.sub
  refine wpAny_call (codeAny_of_tree ?_)
  show wpAny _ _ (callAny (.type "set") _) _ _ _
  refine wpAny_pure ⟨Code.quiet_builtin _ (by decide +kernel), codeAny_builtin PySem.F.entry_type_call ?_⟩
  rw [Around.under_plain (weight_type_call_type "set" [.ref l] []) rfl]
  have h1 := PySem.F.called_set.notType
  have h2 := PySem.F.called_set.canCreate
  have hct := PySem.F.typeCall_set_1 (.ref l)
  repeat (any_goals (first | assumption | wp_step))
  refine codeAny_mono (code_set_newL (.ref l) (E := E) (Q₁ := fun obj s₁ => obj = .ref s.heap.objs.size ∧ s₁ = { s with heap := s.heap.push (freshO w) }) ⟨rfl, rfl⟩) fun r s₁ hr => ?_
  cases r with
  | error e => exact hr
  | ok fl =>
    cases fl with
    | ret obj =>
      obtain ⟨rfl, rfl⟩ := hr
      have hS : (s.heap.push (freshO w)).get? s.heap.objs.size = some (freshO w) := Heap.get?_push_size _ rfl
      have hT : Shared.TypeIs { s with heap := s.heap.push (freshO w) } (.ref s.heap.objs.size) "set" := ⟨_, hS, rfl⟩
      have hli := PySem.F.called_set.init.lookup
      have hbi := PySem.F.called_set.init.bind (.ref s.heap.objs.size)
      repeat (any_goals (first | assumption | wp_step))
      refine codeAny_mono (codeAny_call_builtin (R := wants (fun r s₂ => r = .none ∧ ∃ h' tk, s₂ = { s with heap := h', toks := tk } ∧ SetS P w h' s.heap.objs.size (uq (fun i => ys.getD i default) items.size) ∧ (∀ b o, b < s.heap.objs.size → s.heap.get? b = some o → h'.get? b = some o)) E)
        PySem.F.called_set.init.plain PySem.F.entry_set_init (check_set_init_1 hT ?_)) fun r₂ s₂ hr₂ => ?_
      · obtain ⟨ol, hol, hcl, nl, hdl⟩ := hl
        obtain ⟨ocls, odict, odata, oslots⟩ := ol
        simp only at hcl hdl
        subst hcl; subst hdl
        have hol' : (s.heap.push (freshO w)).get? l = some { cls := .type "list", dict := odict, data := .seq items nl, slots := oslots } := Heap.get?_push_of_some _ hol
        have hsls := PySem.F.sub_list_set
        have hslf := PySem.F.sub_list_frozenset
        have hne : (Value.type "list" == Value.type "dict") = false := by decide
        have hl1 : (s.heap.push (freshO w)).IsList l items := ⟨_, hol', rfl, nl, rfl⟩
        unfold freshO at hS hT hol' hl1 ⊢
        unfold Builtin.«set.__init__» noKeywords Builtin.Frozenset.updateFrom
        generalize hPI : pyIter = PI
        wp_walk
        subst hPI
        refine wpAny_pyIter_list hl1 ?_
        refine wpAny_bind (wpAny_runValue ?_)
        have hlS : l < s.heap.objs.size := Heap.lt_size hol
        have hh3 : A.in1.in1.in1.handled = none := by simp [hh]
        have hneI : l ≠ (s.heap.push (freshO w)).objs.size := by
          rw [Heap.size_push]; exact Nat.ne_of_lt (Nat.lt_succ_of_lt hlS)
        have hSf : s.heap.objs.size ∉ [(s.heap.push (freshO w)).objs.size, l] := by
          rw [Heap.size_push]; simp only [List.mem_cons, List.mem_singleton, List.not_mem_nil, or_false, not_or]
          exact ⟨Nat.ne_of_lt (Nat.lt_succ_self _), Nat.ne_of_gt hlS⟩
        refine set_loop ((Walks.list hh3 _ l hneI items).toS) s.heap.objs.size hSf (fun i => ys.getD i default) hi hb (items.size - 0) 0 _ (by omega) (Nat.zero_le _)
          ⟨⟨_, Heap.get?_push_size _ rfl, rfl, rfl⟩, (hl1.push _)⟩ ?hS0 ?hR
        case hS0 => exact (fresh_SetS s.heap).at' fun o e => Heap.get?_push_of_some _ e
        case hR =>
          intro s' hm hS'
          obtain ⟨h', g', d', tk', os'⟩ := s'
          have eg : g' = s.gens := hm.gens
          have ed : d' = s.drawn := hm.drawn
          have eo : os' = s.os := hm.os
          subst eg; subst ed; subst eo
          show wpAny _ _ _ _ _ _
          refine wpAny_pure ?_
          show wpAny _ _ (ret Value.none) _ _ _
          refine wpAny_pure ⟨rfl, h', tk', rfl, hS', fun b o hb e => ?_⟩
          have hb1 : b ≠ s.heap.objs.size := Nat.ne_of_lt hb
          have hb2 : b ≠ (s.heap.push (freshO w)).objs.size := by
            rw [Heap.size_push]; exact Nat.ne_of_lt (Nat.lt_succ_of_lt hb)
          exact hm.heap b o (by simp only [List.mem_cons, List.mem_singleton, List.not_mem_nil, or_false, not_or]; exact ⟨hb1, hb2⟩) (Heap.get?_push_of_some _ (Heap.get?_push_of_some _ e))
      · cases r₂ with
        | error e => exact hr₂
        | ok fl₂ =>
          cases fl₂ with
          | ret r =>
            obtain ⟨rfl, h', tk, rfl, hS', hk'⟩ := hr₂
            repeat (any_goals (first | assumption | wp_step))
            exact h _ _ hS' hk'
          | _ => exact hr₂.elim
    | _ => exact hr.elim
end
end L2

set_option maxHeartbeats 1000000
namespace L2
open PySem PySem.Spec PyProof.Rows PySem.W

/-! ### a set of texts is walked -/
theorem entry_setiter : entryFor table "set.__iter__" = some Builtin.«frozenset.__iter__» := entryFor_alias (id' := "frozenset.__iter__") (by kernel_rfl) rfl (by decide +kernel) (by kernel_rfl)
theorem slot_sit : Slot "set_iterator" "__next__" "set_iterator.__next__" := .of (owner := "set_iterator") (n := "__next__") (by rw [typeLookup_type, builtinLookup_eq_fast]; kernel_rfl) (by decide +kernel) (by decide +kernel) (by decide +kernel) (by first | exact .inl (by decide +kernel) | exact .inr (by decide +kernel)) (by rw [isSubtype_type]; kernel_rfl)
theorem entry_sit : entryFor table "set_iterator.__next__" = some Builtin.«set_iterator.__next__» := entryFor_of_tree (by kernel_rfl)
theorem args_sit (a : Value) : argsOk "set_iterator.__next__" ⟨[a], []⟩ := by
  unfold argsOk; kernel_rfl
theorem nolen_setL : typeLookup (.type "set") "__len__" = pure (some (.builtin "set.__len__")) := PySem.F.slot_set_len.lookup

theorem erase_perm {α : Type} : ∀ (l : List α) (i : Nat) (h : i < l.length), (l[i] :: l.eraseIdx i).Perm l
  | a :: l, 0, _ => .refl _
  | a :: l, i + 1, h => by
    have := erase_perm l i (by simpa using h)
    rw [List.eraseIdx_cons_succ, List.getElem_cons_succ]
    exact (List.Perm.swap _ _ _).trans (this.cons a)
section
variable {P : Program} {w : World} {A : Around} {E : Value → Shared → Prop}
theorem choose_any {s : Shared} {n : Nat} {Q : Nat → Shared → Prop} (h0 : n ≠ 0) (h : ∀ i d, i < n → Q i { s with drawn := d }) : wpAny (model P w) A (choose .order n) Q E s := fun Γ p hΓ => by
  unfold choose
  rw [Sem.wp_choose]
  exact ⟨h0, h _ _ (Nat.mod_lt _ (Nat.pos_of_ne_zero h0))⟩
theorem draw_any {α : Type} : ∀ (n : Nat) (xs : List α) (s : Shared) {Q : List α → Shared → Prop}, xs.length = n → (∀ ys d, ys.Perm xs → Q ys { s with drawn := d }) → wpAny (model P w) A (drawOrder n xs) Q E s
  | 0, [], s, Q, _, h => by
    unfold drawOrder
    exact wpAny_pure (h [] s.drawn (.refl _))
  | n + 1, x :: xs, s, Q, hl, h => by
    unfold drawOrder
    refine wpAny_bind (choose_any (by simp) fun i d hi => ?_)
    rw [List.getElem?_eq_getElem hi]
    dsimp only
    refine wpAny_bind (draw_any n ((x :: xs).eraseIdx i) _ (by rw [List.length_eraseIdx_of_lt hi]; simpa using hl) fun ys d' hp => ?_)
    exact wpAny_pure (h _ d' ((hp.cons _).trans (erase_perm _ i hi)))
theorem pick_go {α : Type} (next : Nat → Nat) : ∀ (n k : Nat) (left : List α) (out : Array α), left.length = n → (pickOrder.go next n k left out).toList.Perm (out.toList ++ left)
  | 0, k, left, out, h => by
    rw [List.eq_nil_of_length_eq_zero h, List.append_nil]
    exact .refl _
  | n + 1, k, left, out, h => by
    have hi : next k % left.length < left.length := Nat.mod_lt _ (by omega)
    unfold pickOrder.go
    rw [List.getElem?_eq_getElem hi]
    dsimp only
    refine (pick_go next n (k + 1) _ _ (by rw [List.length_eraseIdx_of_lt hi]; omega)).trans ?_
    rw [Array.toList_push, List.append_assoc]
    exact List.Perm.append_left _ (erase_perm left _ hi)
theorem pick_perm' {α : Type} (next : Nat → Nat) (xs : Array α) : (pickOrder next xs).toList.Perm xs.toList := by
  have := pick_go next xs.size 0 xs.toList #[] (by simp)
  simpa [pickOrder] using this
abbrev SIt (h : Heap) (it S : Addr) (first : Value) (i n ep : Nat) : Prop := h.get? it = some { cls := .type "set_iterator", dict := none, data := .fields #[first, .int i 0, .ref S, .int n 0, .int ep 0], slots := #[] }
variable {s : Shared} {it S : Addr} {o : Obj} {es : Array (Int × Value)} {ep n i : Nat} {t : SetTable}
theorem sit_slot {slot slot' : Nat} {x : Value} {Q : Option Value → Shared → Prop} (hit : SIt s.heap it S (rawInt slot) i n ep) (ho : s.heap.get? S = some o) (hd : o.data = .set es ep t) (hf : t.fits es.size = true) (hn : es.size = n)
    (hnext : ∀ (A : Around) (E : Value → Shared → Prop) (Q' : Option (Value × Nat) → Shared → Prop), Q' (some (x, slot')) s → wpAny (model P w) A (setNext S slot i ep) Q' E s)
    (hQ : ∀ h', SIt h' it S (rawInt slot') (i + 1) n ep → Heap.SameBut it s.heap h' → Q (some x) { s with heap := h' }) : wpAny (model P w) A (pyNext (.ref it)) Q E s := by
  have hT : s.TypeIs (.ref it) "set_iterator" := ⟨_, hit, rfl⟩
  unfold pyNext
  refine wpAny_bind (wpAny_attempt (wpAny_callSpecial?_slot (name := Str.ofString "__next__") hT slot_sit (wpAny_call_entry slot_sit hT entry_sit ?_ (args_sit _))))
  unfold Builtin.«set_iterator.__next__»
  refine wpAny_bind (wpAny_pure ?_)
  refine wpAny_bind (wpAny_fieldsOf hit rfl ?_)
  show wpAny _ _ (setEntries S >>= _) _ _ _
  refine wpAny_bind (wpAny_setEntries_of ho hd hf ?_)
  rw [if_neg (by rw [hn]; simp)]
  show wpAny _ _ (setNext S ((slot : Int).toNat) ((i : Int).toNat) ((ep : Int).toNat) >>= _) _ _ _
  rw [Int.toNat_natCast, Int.toNat_natCast, Int.toNat_natCast]
  refine wpAny_bind (hnext _ _ _ ?_)
  dsimp only
  refine wpAny_bind (wpAny_setField_rec hit (by simp) fun h1 e1 s1 => ?_)
  refine wpAny_bind (wpAny_setField_rec e1 (by simp) fun h2 e2 s2 => ?_)
  refine wpAny_pure ⟨_, rfl, wpAny_pure (hQ h2 ?_ (s1.trans s2))⟩
  have e : ((i + 1 : Nat) : Int) = (i : Int) + 1 := by omega
  show h2.get? it = _
  rw [e]
  simpa [rawInt] using e2
end
end L2

set_option maxHeartbeats 1000000
namespace L2
open PySem PySem.Spec PyProof.Rows PySem.W
section
variable {P : Program} {w : World} {A : Around} {E : Value → Shared → Prop} {s : Shared} {it S : Addr} {o : Obj} {es : Array (Int × Value)} {ep n i : Nat} {t : SetTable}
/-- the end of a walk: StopIteration is raised and taken -/
theorem stop_any {h0 : Heap} {Q : Option Value → Shared → Prop} (hh : A.handled = none) (hQ : ∀ h', (∀ b u, h0.get? b = some u → h'.get? b = some u) → Q none { s with heap := h' }) :
    wpAny (model P w) A.in1 (newExc (.type "StopIteration") [] >>= fun e => (raiseNew e : Sem PySem.Fin)) (fun _ _ => False) (fun e s' => wpAny (model P w) A (isInstance e (.type "StopIteration")) (fun b s2 => b = true ∧ Q none s2) E s') { s with heap := h0 } := by
  refine wpAny_bind ?_
  simp only [newExc, newTuple]
  refine wpAny_bind (wpAny_newObj_type ?_ (by size_fits))
  refine wpAny_bind (m := firstArgMember _ _) (wpAny_of_eq (a := Value.none) (by first | rfl | (simp only [firstArgMember]; rfl)) ?_)
  refine wpAny_newObj_type ?_ (by size_fits)
  simp only [raiseNew]
  refine wpAny_bind (wpAny_handled ?_)
  rw [show A.in1.handled = none from hh]
  refine wpAny_bind (wpAny_pure (wpAny_throw ?_))
  refine wpAny_isInstance (T := "StopIteration") (b := true) ⟨_, Heap.get?_push_size _ rfl, rfl⟩ isSubtype_stop ⟨rfl, ?_⟩
  exact hQ _ fun b u e => Heap.get?_push_of_some _ (Heap.get?_push_of_some _ e)
theorem sit_slot_end {slot : Nat} {Q : Option Value → Shared → Prop} (hh : A.handled = none) (hit : SIt s.heap it S (rawInt slot) i n ep) (ho : s.heap.get? S = some o) (hd : o.data = .set es ep t) (hf : t.fits es.size = true) (hn : es.size = n)
    (hnext : ∀ (A : Around) (E : Value → Shared → Prop) (Q' : Option (Value × Nat) → Shared → Prop), Q' none s → wpAny (model P w) A (setNext S slot i ep) Q' E s)
    (hQ : ∀ h', (∀ b u, b ≠ it → s.heap.get? b = some u → h'.get? b = some u) → Q none { s with heap := h' }) : wpAny (model P w) A (pyNext (.ref it)) Q E s := by
  have hT : s.TypeIs (.ref it) "set_iterator" := ⟨_, hit, rfl⟩
  unfold pyNext
  refine wpAny_bind (wpAny_attempt (wpAny_callSpecial?_slot (name := Str.ofString "__next__") hT slot_sit (wpAny_call_entry slot_sit hT entry_sit ?_ (args_sit _))))
  unfold Builtin.«set_iterator.__next__»
  refine wpAny_bind (wpAny_pure ?_)
  refine wpAny_bind (wpAny_fieldsOf hit rfl ?_)
  show wpAny _ _ (setEntries S >>= _) _ _ _
  refine wpAny_bind (wpAny_setEntries_of ho hd hf ?_)
  rw [if_neg (by rw [hn]; simp)]
  show wpAny _ _ (setNext S ((slot : Int).toNat) ((i : Int).toNat) ((ep : Int).toNat) >>= _) _ _ _
  rw [Int.toNat_natCast, Int.toNat_natCast, Int.toNat_natCast]
  refine wpAny_bind (hnext _ _ _ ?_)
  show wpAny _ _ (setField (.ref it) 2 .none >>= _) _ _ s
  refine wpAny_bind (wpAny_setField hit rfl (by simp) ?_)
  refine wpAny_mono (stop_any (P := P) (w := w) (A := A) (E := E) (s := s) (Q := Q) hh fun h' k => hQ h' fun b u hb e => k b u ?_) (fun _ _ z => z.elim) fun e s' z => ?_
  · exact (Heap.SameBut.update ..).extBut b u hb e
  · refine wpAny_bind (wpAny_mono z (fun b s2 ⟨e1, e2⟩ => ?_) fun _ _ y => y)
    subst e1
    exact wpAny_pure e2
end
end L2

set_option maxHeartbeats 1000000
namespace L2
open PySem PySem.Spec PyProof.Rows PySem.W
section
variable {P : Program} {w : World} {A : Around} {E : Value → Shared → Prop} {s : Shared} {it S tp : Addr} {o ot : Obj} {es : Array (Int × Value)} {ep n i m : Nat} {t : SetTable} {pl : Array Value}
theorem drawn_at {p : Nat} {h : Int} {x : Value} {Q : Value → Shared → Prop} (ho : s.heap.get? S = some o) (hd : o.data = .set es ep t) (hf : t.fits es.size = true) (he : es[p]? = some (h, x)) (q : Q x s) : wpAny (model P w) A (setNextDrawn S p ep) Q E s := by
  unfold setNextDrawn
  refine wpAny_bind (wpAny_setState_of ho hd hf ?_)
  dsimp only
  rw [if_neg (by simp)]
  rw [he]
  exact wpAny_pure q
theorem sit_draw {p : Nat} {h : Int} {x : Value} {Q : Option Value → Shared → Prop} (hit : SIt s.heap it S (.ref tp) i n ep) (htp : s.heap.get? tp = some ot) (hdt : ot.data = .seq pl m) (ho : s.heap.get? S = some o) (hd : o.data = .set es ep t) (hf : t.fits es.size = true) (hn : es.size = n)
    (hp : pl[i]? = some (rawInt p)) (he : es[p]? = some (h, x)) (hQ : ∀ h', SIt h' it S (.ref tp) (i + 1) n ep → Heap.SameBut it s.heap h' → Q (some x) { s with heap := h' }) : wpAny (model P w) A (pyNext (.ref it)) Q E s := by
  have hT : s.TypeIs (.ref it) "set_iterator" := ⟨_, hit, rfl⟩
  unfold pyNext
  refine wpAny_bind (wpAny_attempt (wpAny_callSpecial?_slot (name := Str.ofString "__next__") hT slot_sit (wpAny_call_entry slot_sit hT entry_sit ?_ (args_sit _))))
  unfold Builtin.«set_iterator.__next__»
  refine wpAny_bind (wpAny_pure ?_)
  refine wpAny_bind (wpAny_fieldsOf hit rfl ?_)
  show wpAny _ _ (setEntries S >>= _) _ _ _
  refine wpAny_bind (wpAny_setEntries_of ho hd hf ?_)
  rw [if_neg (by rw [hn]; simp)]
  show wpAny _ _ (seqItems? (.ref tp) >>= _) _ _ _
  refine wpAny_bind (wpAny_seqItems htp hdt ?_)
  show wpAny _ _ (match pl[(i : Int).toNat]? with | some (.int place _) => _ | some _ => _ | none => _) _ _ _
  rw [Int.toNat_natCast, hp]
  show wpAny _ _ (setNextDrawn S ((p : Int).toNat) ((ep : Int).toNat) >>= _) _ _ _
  rw [Int.toNat_natCast, Int.toNat_natCast]
  refine wpAny_bind (drawn_at ho hd hf he ?_)
  refine wpAny_bind (wpAny_setField_rec hit (by simp) fun h2 e2 s2 => ?_)
  refine wpAny_pure ⟨_, rfl, wpAny_pure (hQ h2 ?_ s2)⟩
  have e : ((i + 1 : Nat) : Int) = (i : Int) + 1 := by omega
  show h2.get? it = _
  rw [e]
  simpa [rawInt] using e2
theorem sit_draw_end {Q : Option Value → Shared → Prop} (hh : A.handled = none) (hit : SIt s.heap it S (.ref tp) i n ep) (htp : s.heap.get? tp = some ot) (hdt : ot.data = .seq pl m) (ho : s.heap.get? S = some o) (hd : o.data = .set es ep t) (hf : t.fits es.size = true) (hn : es.size = n)
    (hp : pl[i]? = none) (hQ : ∀ h', (∀ b u, b ≠ it → s.heap.get? b = some u → h'.get? b = some u) → Q none { s with heap := h' }) : wpAny (model P w) A (pyNext (.ref it)) Q E s := by
  have hT : s.TypeIs (.ref it) "set_iterator" := ⟨_, hit, rfl⟩
  unfold pyNext
  refine wpAny_bind (wpAny_attempt (wpAny_callSpecial?_slot (name := Str.ofString "__next__") hT slot_sit (wpAny_call_entry slot_sit hT entry_sit ?_ (args_sit _))))
  unfold Builtin.«set_iterator.__next__»
  refine wpAny_bind (wpAny_pure ?_)
  refine wpAny_bind (wpAny_fieldsOf hit rfl ?_)
  show wpAny _ _ (setEntries S >>= _) _ _ _
  refine wpAny_bind (wpAny_setEntries_of ho hd hf ?_)
  rw [if_neg (by rw [hn]; simp)]
  show wpAny _ _ (seqItems? (.ref tp) >>= _) _ _ _
  refine wpAny_bind (wpAny_seqItems htp hdt ?_)
  show wpAny _ _ (match pl[(i : Int).toNat]? with | some (.int place _) => _ | some _ => _ | none => _) _ _ _
  rw [Int.toNat_natCast, hp]
  show wpAny _ _ (setField (.ref it) 0 (rawInt 0) >>= _) _ _ s
  refine wpAny_bind (wpAny_setField_rec hit (by simp) fun h2 e2 s2 => ?_)
  refine wpAny_bind (wpAny_setField e2 rfl (by simp) ?_)
  refine wpAny_mono (stop_any (P := P) (w := w) (A := A) (E := E) (s := s) (Q := Q) hh fun h' k => hQ h' fun b u hb e => k b u ?_) (fun _ _ z => z.elim) fun e s' z => ?_
  · exact (Heap.SameBut.update ..).extBut b u hb (s2.extBut b u hb e)
  · refine wpAny_bind (wpAny_mono z (fun b s2 ⟨e1, e2⟩ => ?_) fun _ _ y => y)
    subst e1
    exact wpAny_pure e2
/-! ### what comes next in a table that is gone through by its slots -/
theorem next_text {slot g : Nat} {Q : Option (Value × Nat) → Shared → Prop} (hbt : w.params.followText "set-order" = true) (ho : s.heap.get? S = some o) (hd : o.data = .set es ep t) (hf : t.fits es.size = true)
    (q : Q (((pickOrder (w.params.setOrder S ep) es)[g]?).map fun e => (e.2, slot)) s) : wpAny (model P w) A (setNext S slot g ep) Q E s := by
  unfold setNext setWalk setsByText
  refine wpAny_bind (wpAny_setState_of ho hd hf ?_)
  dsimp only
  refine wpAny_bind (wpAny_bind (wpAny_askSetting (wpAny_pure ?_)))
  refine wpAny_ite_split (fun _ => ?_) (fun z => absurd hbt z)
  refine wpAny_ite_split (fun z => absurd z (by simp)) (fun _ => ?_)
  refine wpAny_bind (wpAny_bind (wpAny_setState_of ho hd hf ?_))
  dsimp only
  refine wpAny_bind (wpAny_bind (wpAny_askSetting (wpAny_pure ?_)))
  refine wpAny_ite_split (fun _ => ?_) (fun z => absurd hbt z)
  refine wpAny_bind (wpAny_askSetting (wpAny_pure ?_))
  exact wpAny_pure q
theorem next_led {slot g : Nat} {Q : Option (Value × Nat) → Shared → Prop} (hbt : w.params.followText "set-order" = false) (ho : s.heap.get? S = some o) (hd : o.data = .set es ep t) (hf : t.fits es.size = true) (hl : t.led = true) (h1 : es.size ≤ 1)
    (q : Q (match es[SetTable.below t.place slot]?, t.place[SetTable.below t.place slot]? with | some (_, x), some j => some (x, j + 1) | _, _ => none) s) : wpAny (model P w) A (setNext S slot g ep) Q E s := by
  unfold setNext setsByText
  refine wpAny_bind (wpAny_setState_of ho hd hf ?_)
  dsimp only
  refine wpAny_bind (wpAny_bind (wpAny_askSetting (wpAny_pure ?_)))
  refine wpAny_ite_split (fun z => absurd (hbt.symm.trans z) (fun y => nomatch y)) (fun _ => ?_)
  refine wpAny_ite_split (fun z => absurd z ?_) (fun _ => ?_)
  · show ¬ ((!t.plain && decide (es.size > 1)) = true)
    rw [decide_eq_false (by omega), Bool.and_false]
    exact Bool.false_ne_true
  refine wpAny_bind ?_
  show wpAny _ _ (if (!t.led && !es.isEmpty) = true then _ else _) _ _ _
  rw [if_neg (by rw [hl]; simp)]
  refine wpAny_pure ?_
  exact wpAny_pure q
end
end L2

set_option maxHeartbeats 1000000
namespace L2
open PySem PySem.Spec PyProof.Rows PySem.W
section
variable {P : Program} {w : World} {A : Around} {E : Value → Shared → Prop} {s : Shared} {S : Addr} {o : Obj} {es : Array (Int × Value)} {ep : Nat} {t : SetTable}
theorem draws_is {Q : Bool → Shared → Prop} (ho : s.heap.get? S = some o) (hd : o.data = .set es ep t) (hf : t.fits es.size = true) (q : Q (!w.params.followText "set-order" && (!t.plain && decide (es.size > 1))) s) : wpAny (model P w) A (setDrawn S) Q E s := by
  unfold setDrawn setsByText
  refine wpAny_bind (wpAny_setState_of ho hd hf ?_)
  dsimp only
  refine wpAny_bind (wpAny_bind (wpAny_askSetting (wpAny_pure ?_)))
  exact wpAny_pure q
theorem iter_any {Q : Value → Shared → Prop} (ho : s.heap.get? S = some o) (hex : o.ExactSet) (hd : o.data = .set es ep t) (hf : t.fits es.size = true) (hz : es.size ≤ 1000)
    (q0 : (!w.params.followText "set-order" && (!t.plain && decide (es.size > 1))) = false → Q (.ref s.heap.objs.size) { s with heap := s.heap.push { cls := .type "set_iterator", data := .fields #[rawInt 0, .int 0 0, .ref S, .int es.size 0, .int ep 0] } })
    (q1 : (!w.params.followText "set-order" && (!t.plain && decide (es.size > 1))) = true → ∀ (ys : List Nat) (d : Drawn), ys.Perm (List.range es.size) → Q (.ref (s.heap.objs.size + 1)) { s with heap := (s.heap.push { cls := .type "tuple", data := .seq (ys.map fun (i : Nat) => rawInt i).toArray }).push { cls := .type "set_iterator", data := .fields #[.ref s.heap.objs.size, .int 0 0, .ref S, .int es.size 0, .int ep 0] }, drawn := d }) :
    wpAny (model P w) A (pyIter (.ref S)) Q E s := by
  have hT : s.TypeIs (.ref S) "set" := ⟨o, ho, hex.1⟩
  refine wpAny_pyIter_slot hT PySem.F.slot_set_iter (wpAny_call_entry PySem.F.slot_set_iter hT entry_setiter ?_ (PySem.F.args_set_iter_1 _))
  unfold Builtin.«frozenset.__iter__» Builtin.Frozenset.slot0 slotArgs
  simp only [List.isEmpty_nil, Bool.not_true, Bool.false_eq_true, ↓reduceIte, bind_assoc, List.length_nil, bne_self_eq_false]
  unfold Builtin.Frozenset.addrOf Builtin.Frozenset.sizeOf
  refine wpAny_bind (wpAny_pure ?_)
  try dsimp only
  refine wpAny_bind (wpAny_pure ?_)
  refine wpAny_bind (wpAny_bind (wpAny_setEntries_of ho hd hf (wpAny_pure ?_)))
  refine wpAny_bind (draws_is ho hd hf ?_)
  cases hb : (!w.params.followText "set-order" && (!t.plain && decide (es.size > 1))) with
  | false =>
    simp only [Bool.false_eq_true, if_false]
    refine wpAny_bind (wpAny_pure ?_)
    refine wpAny_bind (wpAny_setEpoch_of ho hd hf ?_)
    refine wpAny_bind (wpAny_newObj_type (wpAny_pure ⟨_, rfl, "set_iterator", _, ⟨_, Heap.get?_push_size _ rfl, rfl⟩, slot_sit.lookup, ?_⟩) ?_)
    · exact q0 hb
    · simp only [sizeOk, List.size_toArray, List.length_cons, List.length_nil, sizeLine_eq]; omega
  | true =>
    simp only [if_true]
    refine wpAny_bind (draw_any es.size (List.range es.size) _ List.length_range fun ys d hp => ?_)
    have hl : ys.length ≤ 1000 := by rw [hp.length_eq]; simpa using hz
    refine wpAny_bind (wpAny_newTuple ?_ (by rw [List.length_map, sizeLine_eq]; omega))
    have ho' : (s.heap.push { cls := .type "tuple", data := .seq (ys.map fun (i : Nat) => rawInt i).toArray }).get? S = some o := Heap.get?_push_of_some _ ho
    refine wpAny_bind (wpAny_setEpoch_of ho' hd hf ?_)
    refine wpAny_bind (wpAny_newObj_type (wpAny_pure ⟨_, rfl, "set_iterator", _, ⟨_, Heap.get?_push_size _ rfl, rfl⟩, slot_sit.lookup, ?_⟩) ?_)
    · have := q1 hb ys d hp
      rw [Heap.size_push]
      exact this
    · simp only [sizeOk, List.size_toArray, List.length_cons, List.length_nil, sizeLine_eq]; omega
end
end L2

set_option maxHeartbeats 1000000
namespace L2
open PySem PySem.Spec PyProof.Rows PySem.W
/-- an iterator that hands out vs -/
structure Wk (P : Program) (w : World) (it : Addr) (fp : List Addr) (vs : List Value) (St : Nat → Heap → Prop) : Prop where
  keep : ∀ i h h', St i h → (∀ b ∈ fp, ∀ u, h.get? b = some u → h'.get? b = some u) → St i h'
  item : ∀ (i : Nat) (s : Shared) (A : Around) (Q : Option Value → Shared → Prop) (E : Value → Shared → Prop) (x : Value), St i s.heap → vs[i]? = some x →
    (∀ h', St (i + 1) h' → (∀ b u, b ≠ it → s.heap.get? b = some u → h'.get? b = some u) → Q (some x) { s with heap := h' }) → wpAny (model P w) A (pyNext (.ref it)) Q E s
  done : ∀ (s : Shared) (A : Around) (Q : Option Value → Shared → Prop) (E : Value → Shared → Prop), A.handled = none → St vs.length s.heap →
    (∀ h', (∀ b u, b ≠ it → s.heap.get? b = some u → h'.get? b = some u) → Q none { s with heap := h' }) → wpAny (model P w) A (pyNext (.ref it)) Q E s
section
variable {P : Program} {w : World} {it S tp : Addr} {o ot : Obj} {es : Array (Int × Value)} {ep m : Nat} {t : SetTable}
theorem wk_text (hbt : w.params.followText "set-order" = true) (hd : o.data = .set es ep t) (hf : t.fits es.size = true) (hne : S ≠ it) :
    Wk P w it [it, S] ((pickOrder (w.params.setOrder S ep) es).toList.map (·.2)) (fun i h => SIt h it S (rawInt 0) i es.size ep ∧ h.get? S = some o) where
  keep := fun i h h' st k => ⟨k it (by simp) _ st.1, k S (by simp) _ st.2⟩
  item := fun i s A Q E x st hx hQ => by
    have hx' : ((pickOrder (w.params.setOrder S ep) es)[i]?).map (fun e => (e.2, 0)) = some (x, 0) := by
      rw [List.getElem?_map, Array.getElem?_toList] at hx
      cases e : (pickOrder (w.params.setOrder S ep) es)[i]? with
      | none => rw [e] at hx; cases hx
      | some y => rw [e] at hx; have := Option.some.inj hx; rw [← this]; rfl
    exact sit_slot (slot' := 0) st.1 st.2 hd hf rfl (fun A E Q' q => next_text hbt st.2 hd hf (by rw [hx']; exact q)) fun h' hit' sb => hQ h' ⟨hit', (sb.2 S hne).trans st.2⟩ fun b u hb e => (sb.2 b hb).trans e
  done := fun s A Q E hh st hQ => by
    refine sit_slot_end hh st.1 st.2 hd hf rfl (fun A E Q' q => next_text hbt st.2 hd hf ?_) hQ
    have e : (pickOrder (w.params.setOrder S ep) es)[((pickOrder (w.params.setOrder S ep) es).toList.map (·.2)).length]? = none := by
      rw [List.length_map, Array.length_toList]
      exact Array.getElem?_eq_none (Nat.le_refl _)
    rw [e]; exact q
theorem arr_one {α : Type} {a : Array α} (h : a.size = 1) : ∃ x, a = #[x] := by
  cases a with
  | mk l => match l, h with | [x], _ => exact ⟨x, rfl⟩
theorem below_one (j k : Nat) : SetTable.below #[j] k = if j < k then 1 else 0 := by
  unfold SetTable.below
  show SetTable.below.go #[j] k 1 0 1 = _
  unfold SetTable.below.go
  rw [if_pos (by decide)]
  show (if j < k then SetTable.below.go #[j] k 0 1 1 else SetTable.below.go #[j] k 0 0 0) = _
  split
  · rfl
  · rfl
theorem wk_led (hbt : w.params.followText "set-order" = false) (hd : o.data = .set es ep t) (hf : t.fits es.size = true) (hl : t.led = true) (h1 : es.size ≤ 1) (hne : S ≠ it) :
    Wk P w it [it, S] (es.toList.map (·.2)) (fun i h => SIt h it S (rawInt ((if i = 0 then 0 else t.place.getD 0 0 + 1 : Nat))) i es.size ep ∧ h.get? S = some o) where
  keep := fun i h h' st k => ⟨k it (by simp) _ st.1, k S (by simp) _ st.2⟩
  item := fun i s A Q E x st hx hQ => by
    have hi : i < es.size := by have := (List.getElem?_eq_some_iff.mp hx).1; simpa using this
    have i0 : i = 0 := by omega
    subst i0
    have n1 : es.size = 1 := by omega
    have ps : t.place.size = 1 := by
      have := hf
      simp only [SetTable.fits, Bool.and_eq_true, beq_iff_eq] at this
      rw [this.1, n1]
    obtain ⟨j, hj⟩ := arr_one ps
    obtain ⟨y, hy⟩ := arr_one n1
    have ex : y.2 = x := by
      rw [hy] at hx
      simpa using hx
    refine sit_slot (slot := 0) (slot' := j + 1) st.1 st.2 hd hf rfl (fun A E Q' q => next_led hbt st.2 hd hf hl h1 ?_) fun h' hit' sb => hQ h' ⟨?_, (sb.2 S hne).trans st.2⟩ fun b u hb e => (sb.2 b hb).trans e
    · have b0 : SetTable.below t.place 0 = 0 := by rw [hj, below_one, if_neg (Nat.not_lt_zero _)]
      rw [b0, hj, hy]
      show Q' (some (y.2, j + 1)) s
      rw [ex]; exact q
    · have e : t.place.getD 0 0 = j := by rw [hj]; rfl
      show SIt h' it S (rawInt ((if (0 + 1 : Nat) = 0 then 0 else t.place.getD 0 0 + 1 : Nat))) (0 + 1) es.size ep
      rw [if_neg (by decide), e]
      exact hit'
  done := fun s A Q E hh st hQ => by
    refine sit_slot_end hh st.1 st.2 hd hf rfl (fun A E Q' q => next_led hbt st.2 hd hf hl h1 ?_) hQ
    have ps : t.place.size = es.size := by
      have := hf
      simp only [SetTable.fits, Bool.and_eq_true, beq_iff_eq] at this
      exact this.1
    have e : es[SetTable.below t.place (if (es.toList.map (·.2)).length = 0 then 0 else t.place.getD 0 0 + 1)]? = none := by
      rw [List.length_map, Array.length_toList]
      by_cases z : es.size = 0
      · exact Array.getElem?_eq_none (by omega)
      · have n1 : es.size = 1 := by omega
        rw [n1] at ps
        obtain ⟨j, hj⟩ := arr_one ps
        rw [if_neg z, hj]
        have e2 : (#[j] : Array Nat).getD 0 0 = j := rfl
        rw [e2, below_one, if_pos (Nat.lt_succ_self _)]
        exact Array.getElem?_eq_none (by omega)
    rw [e]; exact q
theorem wk_draw {ys : List Nat} (hp : ys.Perm (List.range es.size)) (hdt : ot.data = .seq (ys.map fun (i : Nat) => rawInt i).toArray m) (hd : o.data = .set es ep t) (hf : t.fits es.size = true) (hne : S ≠ it) (hte : tp ≠ it) :
    Wk P w it [it, S, tp] (ys.map fun p => (es.getD p (0, Value.none)).2) (fun i h => SIt h it S (.ref tp) i es.size ep ∧ h.get? S = some o ∧ h.get? tp = some ot) where
  keep := fun i h h' st k => ⟨k it (by simp) _ st.1, k S (by simp) _ st.2.1, k tp (by simp) _ st.2.2⟩
  item := fun i s A Q E x st hx hQ => by
    rw [List.getElem?_map] at hx
    cases e : ys[i]? with
    | none => rw [e] at hx; cases hx
    | some p =>
      rw [e] at hx
      have hx' : (es.getD p (0, Value.none)).2 = x := Option.some.inj hx
      have hlt : p < es.size := List.mem_range.mp (hp.mem_iff.mp (List.mem_of_getElem? e))
      have he : es[p]? = some ((es.getD p (0, Value.none)).1, x) := by
        rw [← hx']
        simp [Array.getD, hlt]
      refine sit_draw st.1 st.2.2 hdt st.2.1 hd hf rfl (p := p) ?_ he fun h' hit' sb => hQ h' ⟨hit', (sb.2 S hne).trans st.2.1, (sb.2 tp hte).trans st.2.2⟩ fun b u hb e => (sb.2 b hb).trans e
      rw [List.getElem?_toArray, List.getElem?_map, e]; rfl
  done := fun s A Q E hh st hQ => by
    refine sit_draw_end hh st.1 st.2.2 hdt st.2.1 hd hf rfl ?_ hQ
    rw [List.getElem?_toArray]
    exact List.getElem?_eq_none (by simp)
end
end L2

set_option maxHeartbeats 1000000
namespace L2
open PySem PySem.Spec PyProof.Rows PySem.W
section
variable {P : Program} {w : World} {A : Around} {E : Value → Shared → Prop} {s : Shared} {S : Addr} {xs : List Str}
theorem vals_txt : ∀ {l : List (Int × Value)}, ElemsOf (PySem.strKind P w) l → Vals ((l.map txtOf).map V.str) (l.map (·.2))
  | [], _ => .nil
  | e :: l, h => by
    obtain ⟨⟨k, hk, _⟩, _⟩ := h.head
    obtain ⟨tk, ht⟩ := Value.isStrOf_shape hk
    refine .cons ?_ (vals_txt h.tail)
    show ∃ t, e.2 = Value.str (txtOf e) t
    exact ⟨tk, by rw [txt_of_is hk]; exact ht⟩
/-- iter(S): an iterator that hands out the texts in some order -/
theorem iter_walk {Q : Value → Shared → Prop} (hS : SetS P w s.heap S xs) (hx : xs.length ≤ 1000)
    (q : ∀ (h' : Heap) (d : Drawn) (it : Addr) (fp : List Addr) (vs : List Value) (os : List Str) (St : Nat → Heap → Prop), (∀ b u, s.heap.get? b = some u → h'.get? b = some u) → Wk P w it fp vs St → St 0 h' → (∀ b ∈ fp, b = S ∨ s.heap.objs.size ≤ b) → s.heap.objs.size ≤ it → Vals (os.map V.str) vs → os.Perm xs → Q (.ref it) { s with heap := h', drawn := d }) :
    wpAny (model P w) A (pyIter (.ref S)) Q E s := by
  obtain ⟨o, es, ep, t, ho, hex, hd, hel, hb, hf, hl, hpl, hp⟩ := hS
  have sz : es.size = xs.length := by rw [← hp.length_eq, List.length_map, Array.length_toList]
  have hlt : S < s.heap.objs.size := Heap.lt_size ho
  refine iter_any ho hex hd hf (by omega) (fun hb0 => ?_) (fun hb1 ys d hys => ?_)
  · have e0 : s = { s with drawn := s.drawn } := by cases s; rfl
    have ne : S ≠ s.heap.objs.size := Nat.ne_of_lt hlt
    have go := q (s.heap.push { cls := .type "set_iterator", data := .fields #[rawInt 0, .int 0 0, .ref S, .int es.size 0, .int ep 0] }) s.drawn s.heap.objs.size [s.heap.objs.size, S]
    have fpo : ∀ b ∈ [s.heap.objs.size, S], b = S ∨ s.heap.objs.size ≤ b := fun b hb => by
      rcases List.mem_cons.mp hb with rfl | hb
      · exact .inr (Nat.le_refl _)
      · exact .inl (List.mem_singleton.mp hb)
    cases hbt : w.params.followText "set-order" with
    | true =>
      have pm := pick_perm' (w.params.setOrder S ep) es
      exact go _ ((pickOrder (w.params.setOrder S ep) es).toList.map txtOf) _ (fun b u e => Heap.get?_push_of_some _ e) (wk_text hbt hd hf ne) ⟨Heap.get?_push_size _ rfl, Heap.get?_push_of_some _ ho⟩ fpo (Nat.le_refl _) (vals_txt (hel.perm pm)) ((pm.map _).trans hp)
    | false =>
      have h1 : es.size ≤ 1 := by
        rw [hbt] at hb0
        by_cases z : es.size > 1
        · rw [decide_eq_true z] at hb0
          cases pz : t.plain with
          | true => have := hpl pz; omega
          | false => rw [pz] at hb0; cases hb0
        · omega
      exact go _ (es.toList.map txtOf) _ (fun b u e => Heap.get?_push_of_some _ e) (wk_led hbt hd hf (by rw [hl, hbt]; rfl) h1 ne) ⟨Heap.get?_push_size _ rfl, Heap.get?_push_of_some _ ho⟩ fpo (Nat.le_refl _) (vals_txt hel) hp
  · have hsz : (s.heap.push { cls := .type "tuple", data := .seq (ys.map fun (i : Nat) => rawInt i).toArray }).objs.size = s.heap.objs.size + 1 := Heap.size_push ..
    have ne : S ≠ s.heap.objs.size + 1 := Nat.ne_of_lt (Nat.lt_succ_of_lt hlt)
    have ne2 : s.heap.objs.size ≠ s.heap.objs.size + 1 := Nat.ne_of_lt (Nat.lt_succ_self _)
    have itAt : ((s.heap.push { cls := .type "tuple", data := .seq (ys.map fun (i : Nat) => rawInt i).toArray }).push { cls := .type "set_iterator", data := .fields #[.ref s.heap.objs.size, .int 0 0, .ref S, .int es.size 0, .int ep 0] }).get? (s.heap.objs.size + 1) = some { cls := .type "set_iterator", dict := none, data := .fields #[.ref s.heap.objs.size, .int 0 0, .ref S, .int es.size 0, .int ep 0], slots := #[] } := by
      rw [← hsz]; exact Heap.get?_push_size _ rfl
    have perm2 : (ys.map fun p => es.getD p (0, Value.none)).Perm es.toList := by
      refine (hys.map _).trans ?_
      have e : (List.range es.size).map (fun p => es.getD p (0, Value.none)) = es.toList := by
        apply List.ext_getElem
        · simp
        · intro i h1 h2
          have hi : i < es.size := by simpa using h1
          simp [Array.getD, hi]
      rw [e]
    have vs := vals_txt (hel.perm perm2)
    rw [List.map_map (g := fun x : Int × Value => x.2)] at vs
    refine q _ d (s.heap.objs.size + 1) [s.heap.objs.size + 1, S, s.heap.objs.size] _ ((ys.map fun p => es.getD p (0, Value.none)).map txtOf) _ (fun b u e => Heap.get?_push_of_some _ (Heap.get?_push_of_some _ e)) (wk_draw (tp := s.heap.objs.size) (m := 0) (ot := { cls := .type "tuple", data := .seq (ys.map fun (i : Nat) => rawInt i).toArray }) hys rfl hd hf ne ne2)
      ⟨itAt, Heap.get?_push_of_some _ (Heap.get?_push_of_some _ ho), Heap.get?_push_of_some _ (Heap.get?_push_size _ rfl)⟩ (fun b hb => ?_) (Nat.le_succ _) vs ((perm2.map _).trans hp)
    simp only [List.mem_cons, List.not_mem_nil, or_false] at hb
    rcases hb with rfl | rfl | rfl
    · exact .inr (Nat.le_succ _)
    · exact .inl rfl
    · exact .inr (Nat.le_refl _)
variable {R : Result → Shared → Prop} {it L : Addr} {fp : List Addr} {vs : List Value} {St : Nat → Heap → Prop}
theorem ext_loop (W : Wk P w it fp vs St) (hh : A.handled = none) (hL : L ∉ fp) (hLi : L ≠ it) (hn : vs.length ≤ 1000) (res : Value) {h₁ : Heap}
    (hR : ∀ h' tk c acc, (∀ b u, b ≠ L → b ≠ it → h₁.get? b = some u → h'.get? b = some u) → h'.get? L = some { cls := .type "list", dict := none, data := .seq acc c, slots := #[] } → acc.toList = vs → R (.ok (.ret res)) { s with heap := h', toks := tk }) :
    ∀ (k i : Nat) (h : Heap) (tk c : Nat) (acc : Array Value), vs.length - i = k → i ≤ vs.length → St i h → (∀ b u, b ≠ L → b ≠ it → h₁.get? b = some u → h.get? b = some u) → h.get? L = some { cls := .type "list", dict := none, data := .seq acc c, slots := #[] } → acc.toList = vs.take i →
      codeAny (model P w) A (.builtin "list.extend.loop" ⟨[.ref L, .ref it, res], []⟩) R { s with heap := h, toks := tk } := by
  intro k
  induction k with
  | zero =>
    intro i h tk c acc hk hi st kp hl ha
    obtain rfl : i = vs.length := by omega
    refine codeAny_builtin PySem.F.entry_extend_loop ?_
    rw [Around.under_plainId PySem.F.plain_extend_loop _]
    show wpAny _ A.in1 (pyNext (.ref it) >>= _) _ _ _
    refine wpAny_bind (W.done { s with heap := h, toks := tk } A.in1 _ _ hh st fun h' k' => ?_)
    exact wpAny_pure (hR h' tk c acc (fun b u h1 h2 e => k' b u h2 (kp b u h1 h2 e)) (k' L _ hLi hl) (by rw [ha, List.take_length]))
  | succ k ih =>
    intro i h tk c acc hk hi st kp hl ha
    have hlt : i < vs.length := by omega
    have hsz : acc.size = i := by rw [← Array.length_toList, ha, List.length_take]; omega
    refine codeAny_builtin PySem.F.entry_extend_loop ?_
    rw [Around.under_plainId PySem.F.plain_extend_loop _]
    show wpAny _ A.in1 (pyNext (.ref it) >>= _) _ _ _
    refine wpAny_bind (W.item i { s with heap := h, toks := tk } A.in1 _ _ vs[i] st (List.getElem?_eq_getElem hlt) fun h' st' k' => ?_)
    dsimp only at k' ⊢
    have hl' := k' L _ hLi hl
    have up : ∀ b u, b ≠ L → h'.get? b = some u → (h'.update L (Obj.mapSeq (·.push vs[i]))).get? b = some u := fun b u hb e => (Heap.get?_update_other _ _ (Ne.symm hb)).trans e
    show wpAny _ A.in1 (updateSeq L (·.push vs[i]) >>= _) _ _ _
    refine wpAny_bind ?_
    refine wpAny_updateSeq hl' rfl (wpAny_pure ⟨plainId_quiet PySem.F.plain_extend_loop _, ih (i + 1) _ tk _ (acc.push vs[i]) (by omega) hlt (W.keep _ _ _ st' fun b hb u e => up b u (fun z => hL (z ▸ hb)) e) (fun b u h1 h2 e => up b u h1 (k' b u h2 (kp b u h1 h2 e))) (Heap.get?_update_self _ hl' rfl) ?_⟩) (by rw [hsz, sizeLine_eq]; omega) (by show (acc.push vs[i]).size ≤ sizeLine + 1; rw [Array.size_push, hsz, sizeLine_eq]; omega)
    rw [Array.toList_push, ha, List.take_add_one, List.getElem?_eq_getElem hlt]; rfl
theorem hint_set (hT : s.TypeIs (.ref S) "set") {Q : Bool → Shared → Prop} (h : Q false s) : wpAny (model P w) A (Builtin.List.listLengthHint (.ref S)) Q E s := by
  unfold Builtin.List.listLengthHint
  refine wpAny_bind (wpAny_specialOf hT PySem.F.slot_set_len.lookup ?_)
  generalize hid : ("set.__len__" : String) = id0
  wp_delta
  rw [show splitId id0 = some ("set", "__len__") from by subst hid; decide +kernel]
  subst hid
  refine wpAny_bind (wpAny_isInstance (T := "set") (b := true) hT (by rw [isSubtype_type]; kernel_rfl) ?_)
  refine wpAny_ite_split (fun hab => absurd hab (by decide)) (fun _ => ?_)
  refine wpAny_ite_split (fun _ => ?_) (fun hab => absurd (by decide +kernel) hab)
  refine wpAny_bind (wpAny_typeOf hT ?_)
  exact wpAny_pure h
end
end L2

set_option maxHeartbeats 1000000
namespace L2
open PySem PySem.Spec PyProof.Rows PySem.W
section
variable {P : Program} {w : World} {A : Around} {E : Value → Shared → Prop} {s : Shared} {S : Addr} {xs : List Str}
theorem ext_set {R : Result → Shared → Prop} (hh : A.handled = none) (hS : SetS P w s.heap S xs) (hx : xs.length ≤ 1000) (L : Addr) (hLS : L ≠ S) (res : Value) (hL : s.heap.get? L = some { cls := .type "list", data := .seq #[] })
    (hR : ∀ (h' : Heap) (d : Drawn) (tk c : Nat) (acc : Array Value) (os : List Str), (∀ b u, b ≠ L → s.heap.get? b = some u → h'.get? b = some u) → h'.get? L = some { cls := .type "list", dict := none, data := .seq acc c, slots := #[] } → Vals (os.map V.str) acc.toList → os.Perm xs → R (.ok (.ret res)) { s with heap := h', toks := tk, drawn := d }) :
    wpAny (model P w) A.in1 (Builtin.List.listExtendWith (.ref L) (.ref S) res) (fun fin s' => match fin with | .done f => R (.ok f) s' | .again c' => c'.quiet = true ∧ codeAny (model P w) A c' R s') (fun e s' => R (.error e) s') s := by
  have hT : s.TypeIs (.ref S) "set" := let ⟨o, _, _, _, ho, hex, _⟩ := hS; ⟨o, ho, hex.1⟩
  have lL : L < s.heap.objs.size := Heap.lt_size hL
  unfold Builtin.List.listExtendWith
  refine wpAny_bind (wpAny_typeOf (T := "set") hT ?_)
  have h1 : Builtin.List.listSameRef (.ref L) (.ref S) = false := by simp [Builtin.List.listSameRef, hLS]
  have h2 : (Value.type "set" == Value.type "list") = false := by decide
  have h3 : (Value.type "set" == Value.type "tuple") = false := by decide
  simp only [h1, h2, h3, Bool.or_false, Bool.false_eq_true, if_false]
  refine wpAny_bind (iter_walk hS hx fun h1 d it fp vs os St k1 W st hfp hit rv hp => ?_)
  have hLf : L ∉ fp := fun z => by
    rcases hfp L z with e | e
    · exact hLS e
    · exact absurd lL (Nat.not_lt.mpr e)
  have hLi : L ≠ it := fun z => absurd lL (Nat.not_lt.mpr (z ▸ hit))
  have hvs : vs.length ≤ 1000 := by
    have := rv.length
    rw [List.length_map] at this
    rw [← this, hp.length_eq]; exact hx
  have key : ∀ (h : Heap) (c tk : Nat), (∀ b u, b ≠ L → h1.get? b = some u → h.get? b = some u) → h.get? L = some { cls := .type "list", data := .seq #[] c } → codeAny (model P w) A (.builtin "list.extend.loop" ⟨[.ref L, .ref it, res], []⟩) R { s with heap := h, toks := tk, drawn := d } := by
    intro h c tk hk hL1
    refine ext_loop (s := { s with drawn := d }) W hh hLf hLi hvs res (h₁ := s.heap) (fun h' tk' c' acc k' hl' ha => ?_) vs.length 0 h tk c #[] (Nat.sub_zero _) (Nat.zero_le _) (W.keep _ _ _ st fun b hb u e => hk b u (fun z => hLf (z ▸ hb)) e) (fun b u hb _ e => hk b u hb (k1 b u e)) hL1 rfl
    refine hR h' d tk' c' acc os (fun b u hb e => k' b u hb (fun z => absurd (Heap.lt_size e) (Nat.not_lt.mpr (z ▸ hit))) e) hl' (by rw [ha]; exact rv) hp
  have hL1 := k1 L _ hL
  have hT1 : Shared.TypeIs { s with heap := h1, drawn := d } (.ref S) "set" := let ⟨o, ho, hc⟩ := hT; ⟨o, k1 S o ho, hc⟩
  refine wpAny_bind (wpAny_holding (hint_set hT1 ?_))
  refine wpAny_ite_split (fun _ => ?_) (fun _ => wpAny_pure ⟨plainId_quiet PySem.F.plain_extend_loop _, key _ _ _ (fun b u _ e => e) hL1⟩)
  refine wpAny_bind (wpAny_rule ?_)
  refine wpAny_bind ?_
  show wpAny _ _ (updateSeq L (·.push .none) >>= fun _ => updateSeq L (·.pop)) _ _ _
  refine wpAny_bind (wpAny_updateSeq hL1 rfl ?_)
  have hL2 := Heap.get?_update_self (Obj.mapSeq (·.push Value.none)) hL1 rfl
  refine wpAny_updateSeq (hz := by seq_fits) hL2 rfl ?_
  have hL3 := Heap.get?_update_self (Obj.mapSeq (·.pop)) hL2 rfl
  refine wpAny_pure ⟨plainId_quiet PySem.F.plain_extend_loop _, key _ _ _ (fun b u hb e => ?_) hL3⟩
  exact (Heap.get?_update_other _ _ (Ne.symm hb)).trans ((Heap.get?_update_other _ _ (Ne.symm hb)).trans e)
theorem collect_set {R : List Value → Shared → Prop} (hh : A.handled = none) (hS : SetS P w s.heap S xs) (hx : xs.length ≤ 1000)
    (h : ∀ (h' : Heap) (d : Drawn) (tk : Nat) (vs : List Value) (os : List Str), (∀ b u, s.heap.get? b = some u → h'.get? b = some u) → Vals (os.map V.str) vs → os.Perm xs → R vs { s with heap := h', toks := tk, drawn := d }) :
    wpAny (model P w) A (collect (.ref S)) R E s := by
  have hlt : S < s.heap.objs.size := let ⟨o, _, _, _, ho, _⟩ := hS; Heap.lt_size ho
  unfold collect
  refine wpAny_bind (wpAny_runValue (codeAny_builtin entry_proto_collect' ?_))
  rw [Around.under_plainId PySem.F.plain_proto_collect _]
  show wpAny _ A.in1 (newList [] >>= fun l => again (.builtin "list.__iadd__" ⟨[l, .ref S], []⟩)) _ _ s
  refine wpAny_bind (wpAny_newObj_type ?_)
  refine wpAny_pure ⟨plainId_quiet PySem.F.plain_list_iadd _, codeAny_builtin entry_list_iadd' ?_⟩
  rw [Around.under_plainId PySem.F.plain_list_iadd _]
  have hL1 : (s.heap.push { cls := .type "list", data := .seq ([] : List Value).toArray }).get? s.heap.objs.size = some { cls := .type "list", data := .seq #[] } := Heap.get?_push_size _ rfl
  show wpAny _ A.in1 (Builtin.List.listExtendWith (.ref s.heap.objs.size) (.ref S) (.ref s.heap.objs.size)) _ _ _
  have key := ext_set (A := A) (s := { s with heap := s.heap.push { cls := .type "list", data := .seq ([] : List Value).toArray } })
    (R := fun (q : Result) (s' : Shared) => ∃ (h' : Heap) (d : Drawn) (tk c : Nat) (acc : Array Value) (os : List Str), q = .ok (.ret (.ref s.heap.objs.size)) ∧ s' = { s with heap := h', toks := tk, drawn := d } ∧ (∀ b u, s.heap.get? b = some u → h'.get? b = some u) ∧ h'.get? s.heap.objs.size = some { cls := .type "list", dict := none, data := .seq acc c, slots := #[] } ∧ Vals (os.map V.str) acc.toList ∧ os.Perm xs)
    hh (hS.at' fun o e => Heap.get?_push_of_some _ e) hx s.heap.objs.size (Nat.ne_of_gt hlt) (.ref s.heap.objs.size) hL1
    (fun h' d tk c acc os k hl rv hp => ⟨h', d, tk, c, acc, os, rfl, rfl, fun b u e => k b u (Nat.ne_of_lt (Heap.lt_size e)) (Heap.get?_push_of_some _ e), hl, rv, hp⟩)
  refine wpAny_mono key (fun fin s' x => ?_) fun e s' x => ?_
  · cases fin with
    | done f =>
      obtain ⟨h', d, tk, c, acc, os, e, rfl, k, hl, rv, hp⟩ := x
      cases e
      show wpAny _ A (load s.heap.objs.size >>= _) _ _ _
      refine wpAny_bind (wpAny_load hl ?_)
      exact wpAny_pure (h h' d tk acc.toList os k rv hp)
    | again c₁ =>
      refine ⟨x.1, codeAny_mono x.2 fun q s₂ y => ?_⟩
      obtain ⟨h', d, tk, c, acc, os, rfl, rfl, k, hl, rv, hp⟩ := y
      show wpAny _ A (load s.heap.objs.size >>= _) _ _ _
      refine wpAny_bind (wpAny_load hl ?_)
      exact wpAny_pure (h h' d tk acc.toList os k rv hp)
  · obtain ⟨_, _, _, _, _, _, e', _⟩ := x
    cases e'
end
/-! ### a tracked list of texts is sorted where it lies -/
def txLt (a b : Str) : Prop := a.cps.toList < b.cps.toList
section
variable {X : Cx} {pins : List (Addr × Obj)} {σ : St} {H : Hp} {s : Shared}
theorem strs_at {ps : List Str} {its : List Value} (rv : Vals (ps.map V.str) its) (i : Nat) (hi : i < ps.length) : ∃ t, its.getD i .none = Value.str (ps.getD i default) t := by
  obtain ⟨u, hu, ru⟩ := Vals.get (i := i) (x := V.str ps[i]) rv (by rw [List.getElem?_map, List.getElem?_eq_getElem hi]; rfl)
  obtain ⟨t, rfl⟩ := (show ∃ t, u = Value.str ps[i] t from ru)
  exact ⟨t, by simp [List.getD, hu, hi]⟩
theorem lsort_str {A : Around} {E : Value → Shared → Prop} {l : Addr} {ps : List Str} {Q : Value → Shared → Prop} (I : Inv X pins σ H s) (hq : H l = some (.lst (ps.map V.str))) (nd : ps.Nodup) (h64 : ps.length < 64)
    (q : ∀ (qs : List Str) (h' : Heap), qs.Perm ps → qs.Pairwise txLt → Inv X pins σ (upd H l (.lst (qs.map V.str))) { s with heap := h' } → Q .none { s with heap := h' }) : wpAny (model X.prog X.w) A (call (.builtin "list.sort") [.ref l]) Q E s := by
  obtain ⟨hz, its, n, rv, at0⟩ := (show ObjOk X.prog X.w H s.heap l (.lst (ps.map V.str)) from I.hok l _ hq)
  have li : its.length = ps.length := by have := rv.length; rw [List.length_map] at this; exact this.symm
  obtain ⟨m, hm, _⟩ := I.loc
  have nL : l ≠ X.env.locals := fun z => by rw [z, I.free] at hq; cases hq
  by_cases few : ps.length < 2
  · refine wpAny_call_entry slot_list_sort ⟨_, at0, rfl⟩ entry_list_sort (list_sort_few at0 (by omega) fun hp ep k2 e2 => ⟨_, rfl, ?_⟩) (args_list_sort _)
    refine q ps hp (List.Perm.refl _) ?_ (I.setList hm hq rv hz (hm.at' fun o e => k2 _ o (Ne.symm nL) e) (fun b o _ hb z => k2 b o hb z) e2)
    match ps, few with
    | [], _ => exact .nil
    | [p], _ => exact List.pairwise_singleton _ _
  · have F0 : Fr (Att.noObjs s.heap) X.env.locals s.heap m := Att.fr_all hm
    generalize hN : (allNews (Att.noObjs s.heap) s.heap X.env.locals).filter (fun p => decide (p.1 ≠ l)) = nw
    have N0 : News (Att.noObjs s.heap) X.env.locals s.heap nw := fun p hp => by rw [← hN] at hp; exact news_all p (List.mem_filter.mp hp).1
    have nl0 : ∀ p ∈ nw, p.1 ≠ l := fun p hp => by rw [← hN] at hp; exact of_decide_eq_true (List.mem_filter.mp hp).2
    refine wpAny_call_entry slot_list_sort ⟨_, at0, rfl⟩ entry_list_sort (kat_list_sort F0 N0 at0 nL (Att.noObjs_get _ _) nl0 (by omega) (by omega) fun e1 h' F' N' => ?_) (args_list_sort _)
    have keep : ∀ (g : Heap) (x : Obj), News (Att.noObjs s.heap) X.env.locals g ((l, x) :: nw) → ∀ b o, b ≠ X.env.locals → b ≠ l → s.heap.get? b = some o → g.get? b = some o := fun g x N b o hb hl e =>
      (N (b, o) (List.mem_cons_of_mem _ (by rw [← hN]; exact List.mem_filter.mpr ⟨mem_allNews hb (Att.noObjs_get _ _) e, decide_eq_true hl⟩))).1
    have kk : keyKind' its.toArray = pure oneType' := by
      have st := strs_of rv
      match its, li, st with
      | v1 :: v2 :: r, _, st => exact keyKind_strs st
      | [_], li, _ => simp at li; omega
      | [], li, _ => simp at li; omega
    rw [kk]
    refine wpAny_pure ?_
    rw [li]
    have unlike : ∀ i j, i < ps.length → j < ps.length → i ≠ j → ps.getD i default ≠ ps.getD j default := fun i j hi hj hij e => by
      have ei : ps.getD i default = ps[i] := by simp [List.getD, hi]
      have ej : ps.getD j default = ps[j] := by simp [List.getD, hj]
      rw [ei, ej] at e
      exact hij ((List.getElem_inj nd).mp e)
    have O : Ord (kas_ask X.prog X.w A.in1 oneType' its) (fun i j => decide ((ps.getD i default).cps.toList < (ps.getD j default).cps.toList)) ps.length { s with heap := h' } := by
      refine ⟨fun i j C hi hj hij hC => ?_, fun i j k h1 h2 => ?_, fun i j hi hj hij h1 => ?_, fun i j h1 => ?_⟩
      · show wpAny _ _ (keyLt' _ _ _) C _ _
        obtain ⟨t1, e1⟩ := strs_at rv i hi
        obtain ⟨t2, e2⟩ := strs_at rv j hj
        rw [e1, e2]
        exact kas_lt_str hC
      · exact decide_eq_true (List.lt_trans (of_decide_eq_true h1) (of_decide_eq_true h2))
      · exact decide_eq_true (lst_tot (of_decide_eq_false h1) fun e => unlike i j hi hj hij (str_ext e))
      · exact decide_eq_false (List.lt_asymm (of_decide_eq_true h1))
    refine sort_ok O (by omega) fun p re up => ?_
    have hl2 : p.toList.Perm (List.range ps.length) := by simpa using Array.perm_iff_toList_perm.mp re.perm
    have outs : ∀ il : List Nat, (∀ i ∈ il, i < ps.length) → Vals ((il.map fun i => ps.getD i default).map V.str) (il.map fun i => its.getD i .none) := by
      intro il
      induction il with
      | nil => intro _; exact .nil
      | cons i il ih =>
        intro h
        obtain ⟨t1, e1⟩ := strs_at rv i (h i List.mem_cons_self)
        refine .cons ?_ (ih fun x hx => h x (List.mem_cons_of_mem _ hx))
        exact ⟨t1, e1⟩
    have rv2 := outs p.toList fun i hi => List.mem_range.mp ((List.Perm.mem_iff hl2).mp hi)
    refine KasFin.intro (news := (l, seqObj "list" #[] e1) :: nw) (g := fun o' => (l, o') :: nw) F' N' (.head nl0) fun h2 c F2 N2 => ?_
    have pq := pick_perm (d := default) rfl re
    have I2 := I.setList (D := l) hm hq rv2 (by rw [List.length_map, pq.length_eq]; simpa using hz) F2.ns (keep h2 _ N2) (N2 (l, _) List.mem_cons_self).1
    exact ⟨_, rfl, q _ h2 pq (pick_pairwise (R := txLt) (fun i j _ _ h => (of_decide_eq_true h : (ps.getD i default).cps.toList < (ps.getD j default).cps.toList)) re up) I2⟩
end
section
variable {X : Cx}
/-- the set that is kept -/
def SetO (P : Program) (w : World) (a : Addr) (xs : List Str) : HO := .ext fun h => SetS P w h a xs
theorem call_setS (hc : X.calm = true) : CallR X (.type "set") (fun xs H Q => ∃ (l : Addr) (ys : List Str), xs = [.ref l] ∧ SqL X.K H l (ys.map V.str) ∧ ys.length ≤ 1000 ∧
    ∀ (a : Addr) (zs : List Str), H a = none → zs.Nodup → (∀ x, x ∈ zs ↔ x ∈ ys) → zs.length ≤ ys.length → Q (.ref a) (upd H a (SetO X.prog X.w a zs))) := by
  intro pins s σ H xs us Q I r h
  obtain ⟨l, ys, rfl, hq, hy, q⟩ := h
  obtain ⟨u, rfl, ru⟩ := vals1 r
  cases ru
  obtain ⟨its, rv, p, hz⟩ := I.list hq
  have li : its.length = ys.length := by have := rv.length; rw [List.length_map] at this; exact this.symm
  have hb : its.toArray.size + 1 < scanBound := by rw [List.size_toArray, li]; unfold scanBound; omega
  refine call_set_strs (ys := ys) (I.ok.hd hc) p.isList (fun i v hv => ?_) hb fun h' tk hS k => ?_
  · have hv' : its[i]? = some v := by simpa using hv
    have hi : i < ys.length := by rw [← li]; exact (List.getElem?_eq_some_iff.mp hv').1
    obtain ⟨t, e⟩ := strs_at rv i hi
    refine ⟨t, ?_⟩
    rw [← e]
    simp [List.getD, hv']
  · have sz : its.toArray.size = ys.length := by rw [List.size_toArray, li]
    rw [sz] at hS
    refine ⟨.ref s.heap.objs.size, _, I.laid (a := s.heap.objs.size) (o := SetO X.prog X.w s.heap.objs.size (uq (fun i => ys.getD i default) ys.length)) (t' := tk) (fun b u e => k b u (Heap.lt_size e) e) (Nat.le_refl _) ?_, rfl, q _ _ I.fresh (uq_nodup _ _) (fun x => ?_) (uq_len _ _)⟩
    · refine ⟨hS, ?_, fun h1 h2 x kk => SetS.at' x kk⟩
      obtain ⟨o, _, _, _, ho, _⟩ := hS
      exact ⟨o, ho⟩
    · rw [uq_mem]
      constructor
      · rintro ⟨j, hj, rfl⟩
        have e : ys.getD j default = ys[j] := by simp [List.getD, hj]
        rw [e]; exact List.getElem_mem hj
      · intro hx
        obtain ⟨j, hj, rfl⟩ := List.getElem_of_mem hx
        exact ⟨j, hj, by simp [List.getD, hj]⟩
theorem call_sortedS (hc : X.calm = true) : CallR X (.builtin "sorted") (fun xs H Q => ∃ (a : Addr) (zs : List Str), xs = [.ref a] ∧ H a = some (SetO X.prog X.w a zs) ∧ zs.Nodup ∧ zs.length < 64 ∧
    ∀ (l : Addr) (qs : List Str), H l = none → qs.Perm zs → qs.Pairwise txLt → Q (.ref l) (upd H l (.lst (qs.map V.str)))) := by
  intro pins s σ H xs us Q I r h
  obtain ⟨a, zs, rfl, ha, nd, h64, q⟩ := h
  obtain ⟨u, rfl, ru⟩ := vals1 r
  cases ru
  obtain ⟨hS, _, _⟩ := (show ObjOk X.prog X.w H s.heap a (SetO X.prog X.w a zs) from I.hok a _ ha)
  refine Calls.call_function_entry kind_sorted plain_sorted entry_sorted (args_sorted1 _) ?_
  unfold Builtin.«sorted»
  refine wpAny_bind (m := checkCount "sorted" 1 1 _) (wpAny_pure (wpAny_bind (collect_set (A := X.A.in1) (I.ok.hd hc) hS (by omega) fun h' d tk vs os k rv hp => ?_)))
  have I1 : Inv X pins σ H { s with heap := h', gens := s.gens, drawn := d, toks := tk } := I.call (ch := []) (Un.kept k) (I.hok.kept k) I.bare fun b hb => nomatch hb
  have lv : vs.length = zs.length := by have := rv.length; rw [List.length_map, hp.length_eq] at this; exact this.symm
  refine wpAny_bind (wpAny_newList ?_ (by rw [lv, sizeLine_eq]; omega))
  have I2 := I1.lnew (t' := tk) rv (by rw [List.length_map, hp.length_eq, sizeLine_eq]; omega)
  refine wpAny_bind (wpAny_holding (lsort_str (A := X.A.in1) (l := h'.objs.size) (ps := os) I2 upd_same (hp.nodup_iff.mpr nd) (by rw [hp.length_eq]; exact h64) fun qs h2 pq pw I3 => ?_))
  rw [upd_upd] at I3
  exact wpAny_pure ⟨_, rfl, .ref h'.objs.size, _, I3, rfl, q _ qs I1.fresh (pq.trans hp) pw⟩
end
end L2

set_option maxHeartbeats 1000000
namespace L2
open PySem PySem.Spec PyProof.Rows PySem.W
section
variable {X : Cx}
theorem log_big {j : Int} (h0 : 0 < j) (h1 : j < 10 ^ 60) : j.natAbs.log2 < 9000 := by
  have hn : j.natAbs < 2 ^ 200 := by omega
  have := (Nat.log2_lt (n := j.natAbs) (k := 200) (by omega)).mpr hn
  omega
/-- // by a positive divisor that may be great -/
def CDivB (i j : Int) : Prop := 0 < j ∧ j < 10 ^ 60
theorem op_fdivB : OpR X (binaryOp .FloorDiv) (rI CDivB fun i j => .int (i / j)) := opI fun i j _ _ _ _ _ hc q => by
  have h1 : (0 : Int) < j := hc.1
  exact floordiv_int (by omega) (by rw [Int.fdiv_eq_ediv_of_nonneg i (by omega)]; exact q) (.inl (PyProof.noPylong_of_log2 (log_big hc.1 hc.2)))
end
end L2

set_option maxHeartbeats 1000000
namespace L2
open PySem PySem.Spec PyProof.Rows PySem.W
theorem vals_by : ∀ {xs : List V} {us : List Value}, xs.length = us.length → (∀ (i : Nat) (x : V) (u : Value), xs[i]? = some x → us[i]? = some u → RelV x u) → Vals xs us
  | [], [], _, _ => .nil
  | [], _ :: _, h, _ => by cases h
  | _ :: _, [], h, _ => by cases h
  | x :: xs, u :: us, h, g => .cons (g 0 x u rfl rfl) (vals_by (by simpa using h) fun i y v h1 h2 => g (i + 1) y v h1 h2)
section
variable {X : Cx}
/-- list(d): the keys as they stand -/
theorem call_listD (hc : X.calm = true) : CallR X (.type "list") (fun xs H Q => ∃ (d : Addr) (kvs : List (Key × V)), xs = [.ref d] ∧ H d = some (.dK kvs) ∧ ∀ l, H l = none → Q (.ref l) (upd H l (.lst (kvs.map fun p => kV p.1)))) := by
  intro pins s σ H xs us Q I r h
  obtain ⟨d, kvs, rfl, hd, q⟩ := h
  obtain ⟨u, rfl, ru⟩ := vals1 r
  cases ru
  obtain ⟨z, hdm, vs, rel, dd⟩ := dk_of I.hok hd
  obtain ⟨ep, da⟩ := dd.dictAt
  have hvl : kvs.length = vs.length := rel.length
  refine kdl_call (kdl_dict (knd := mixKind X.prog X.w) (kvs := vs) (ep := ep) hdm) (I.ok.hd hc) da (by rw [← hvl]; exact z) fun h' tk acc c k hl it => ?_
  have rv : Vals (kvs.map fun p => kV p.1) acc.toList := by
    refine vals_by (by rw [List.length_map, hvl]; simpa using it.1.symm) fun i x u h1 h2 => ?_
    obtain ⟨key, y, e1, e2⟩ := it.2 i u (by simpa using h2)
    obtain ⟨y', hy, _⟩ := rel.at e1
    rw [List.getElem?_map, hy] at h1
    obtain rfl : kV key = x := Option.some.inj h1
    exact kV_of e2
  exact ⟨.ref s.heap.objs.size, _, I.laid (t' := tk) k (Nat.le_refl _) (show ObjOk X.prog X.w _ h' _ (.lst (kvs.map fun p => kV p.1)) from ⟨by rw [List.length_map]; exact z, acc.toList, c, rv, by simpa using hl⟩), rfl, q _ I.fresh⟩
end
end L2

set_option maxHeartbeats 1000000
namespace L2
open PySem PySem.Spec PyProof.Rows
/-! ### enumerate(tuple), its pairs unpacked -/
section
variable {prog : Program} {w : World} {A : Around} {E : Value → Shared → Prop} {s : Shared}
theorem nextOf_tup_item {it t : Addr} {i : Nat} {its : Array Value} {x : Value} {Q : Value → Shared → Prop} (hit : s.heap.IsTupleIter it t i) (ht : s.heap.IsTuple t its) (hx : its[i]? = some x)
    (hQ : ∀ h', h'.IsTupleIter it t (i + 1) → Heap.SameBut it s.heap h' → Q x { s with heap := h' }) : wpAny (model prog w) A (Builtin.SmallTypes.nextOf (.ref it)) Q E s := by
  obtain ⟨o, ho, hc, hd⟩ := id hit
  obtain ⟨ol, hol, _, nl, hdl⟩ := ht
  unfold Builtin.SmallTypes.nextOf
  refine wpAny_bind (wpAny_callSpecial?_slot (name := Str.ofString "__next__") hit.typeIs F.slot_tuple_iterator_next (wpAny_call_entry F.slot_tuple_iterator_next hit.typeIs F.entry_tuple_iterator_next ?_ (F.args_tuple_iterator_next_1 _)))
  show wpAny _ _ (field (.ref it) 0 >>= _) _ _ s; refine wpAny_bind (wpAny_field ho hd (x := .ref t) rfl ?_)
  show wpAny _ _ (if (Value.ref t == Value.none) = true then _ else _) _ _ s; rw [if_neg (show ¬ ((Value.ref t == Value.none) = true) from Bool.false_ne_true)]
  show wpAny _ _ (field (.ref it) 1 >>= _) _ _ s; refine wpAny_bind (wpAny_field ho hd (x := .int i 0) rfl ?_)
  show wpAny _ _ (seqItems? (.ref t) >>= _) _ _ s; refine wpAny_bind (wpAny_seqItems hol hdl ?_); simp only [Int.toNat_natCast, hx]
  refine wpAny_bind (wpAny_setField ho hd (by simp) (wpAny_pure ⟨x, rfl, wpAny_pure (hQ _ ⟨_, Heap.get?_update_self _ ho (Obj.isFreed_of_fields (Obj.data_mapFields hd _)), (Obj.cls_mapFields ..).trans hc, by rw [Obj.data_mapFields hd]; simp [rawInt]⟩ (Heap.SameBut.update ..))⟩))
theorem nextOf_tup_end {it t : Addr} {i : Nat} {its : Array Value} {Q : Value → Shared → Prop} (hh : A.handled = none) (hit : s.heap.IsTupleIter it t i) (ht : s.heap.IsTuple t its) (hx : its[i]? = none)
    (hE : ∀ h' e, Heap.ExtBut it s.heap h' → (∃ o, h'.get? e = some o ∧ o.cls = .type "StopIteration") → E (.ref e) { s with heap := h' }) : wpAny (model prog w) A (Builtin.SmallTypes.nextOf (.ref it)) Q E s := by
  obtain ⟨o, ho, hc, hd⟩ := id hit
  obtain ⟨ol, hol, _, nl, hdl⟩ := ht
  unfold Builtin.SmallTypes.nextOf
  refine wpAny_bind (wpAny_callSpecial?_slot (name := Str.ofString "__next__") hit.typeIs F.slot_tuple_iterator_next (wpAny_call_entry F.slot_tuple_iterator_next hit.typeIs F.entry_tuple_iterator_next ?_ (F.args_tuple_iterator_next_1 _)))
  show wpAny _ _ (field (.ref it) 0 >>= _) _ _ s; refine wpAny_bind (wpAny_field ho hd (x := .ref t) rfl ?_)
  show wpAny _ _ (if (Value.ref t == Value.none) = true then _ else _) _ _ s; rw [if_neg (show ¬ ((Value.ref t == Value.none) = true) from Bool.false_ne_true)]
  show wpAny _ _ (field (.ref it) 1 >>= _) _ _ s; refine wpAny_bind (wpAny_field ho hd (x := .int i 0) rfl ?_)
  show wpAny _ _ (seqItems? (.ref t) >>= _) _ _ s; refine wpAny_bind (wpAny_seqItems hol hdl ?_); simp only [Int.toNat_natCast, hx]
  refine wpAny_bind (wpAny_rule (wpAny_bind (wpAny_setField ho hd (by simp) ?_))); show wpAny _ _ (newExc (.type "StopIteration") [] >>= _) _ _ _
  refine wpAny_bind ?_; simp only [newExc, newTuple]; refine wpAny_bind (wpAny_newObj_type ?_ (by size_fits))
  refine wpAny_bind (m := firstArgMember _ _) (wpAny_of_eq (a := Value.none) (by first | rfl | (simp only [firstArgMember]; rfl)) (wpAny_newObj_type ?_ (by size_fits)))
  simp only [raiseNew]; refine wpAny_bind (wpAny_handled ?_); first | rw [show A.in1.handled = none from hh] | rw [hh]
  refine wpAny_bind (wpAny_pure (wpAny_throw (hE _ _ (((Heap.SameBut.update ..).extBut.push _).push _) ⟨_, Heap.get?_push_size _ rfl, rfl⟩)))
theorem draws_tup (hh : A.handled = none) (it l : Addr) (hne : l ≠ it) (its : Array Value) : Draws prog w A it [it, l] its.size (fun i v => its[i]? = some v) (fun i h => h.IsTupleIter it l i ∧ h.IsTuple l its) where
  live := fun _ _ st => let ⟨o, ho, _⟩ := st.1; ⟨o, ho⟩
  frame := fun _ _ _ st hk => ⟨st.1.at fun o e => hk it (by simp) o e, let ⟨o, ho, r⟩ := st.2; ⟨o, hk l (by simp) o ho, r⟩⟩
  item := fun i s Q E hi st hQ => nextOf_tup_item st.1 st.2 (x := its[i]) (by simp [hi]) fun h' hit' hs' => hQ _ h' s.toks (by simp [hi]) ⟨hit', st.2.extBut hs'.extBut hne⟩ hs'
  done := fun s Q E st hE => nextOf_tup_end hh st.1 st.2 (by simp) hE
theorem meets_enum_tup (l : Addr) (its : Array Value) (n : Nat) (dct : Option Addr) (sl : Array (Option Value)) :
    Meets (Builtin.«enumerate.__new__» ⟨[.type "enumerate", .ref l], []⟩) (fun _ R s => s.heap.get? l = some { cls := .type "tuple", dict := dct, data := .seq its n, slots := sl } ∧
      R (.ok (.ret (.ref (s.heap.push { cls := .type "tuple_iterator", data := .fields #[.ref l, .int 0 0] }).objs.size)))
        { s with heap := (s.heap.push { cls := .type "tuple_iterator", data := .fields #[.ref l, .int 0 0] }).push { cls := .type "enumerate", data := .fields #[.none, .bool false, .ref s.heap.objs.size, rawInt 0, .none, .none] } }) :=
  .of_wp fun prog w A R s h => by
    obtain ⟨hp, g, d, tk, os⟩ := s; obtain ⟨hl, h⟩ := h; have hsub := sub_enumerate
    have hL : Heap.IsTuple (Shared.heap ⟨hp, g, d, tk, os⟩) l its := ⟨_, hl, rfl, n, rfl⟩
    wp_walk using AutoSeq1.wpAny_loadPart' hl
    refine wpAny_stack_any fun st => wpAny_pure ?_; split
    · rename_i c _ _ _ _ _
      cases (c == Value.type "enumerate") <;> (wp_walk using AutoSeq1.wpAny_loadPart' hl, wpAny_pyIter_tuple hL; exact ⟨_, rfl, h⟩)
    · wp_walk using AutoSeq1.wpAny_loadPart' hl, wpAny_pyIter_tuple hL; exact ⟨_, rfl, h⟩
theorem call_enum_tup {l : Addr} {its : Array Value} {Q : Value → Shared → Prop} (hL : s.heap.IsTuple l its)
    (h : ∀ h', IsEnum h' (s.heap.objs.size + 1) s.heap.objs.size 0 .none → h'.IsTupleIter s.heap.objs.size l 0 → h'.objs.size = s.heap.objs.size + 2 → (∀ b o, s.heap.get? b = some o → h'.get? b = some o) → Q (.ref (s.heap.objs.size + 1)) { s with heap := h' }) :
    wpAny (model prog w) A (call (.type "enumerate") [.ref l]) Q E s := by
  obtain ⟨⟨c, dct, dt, sl⟩, hl, hc, n, hd⟩ := hL
  replace hc : c = .type "tuple" := hc
  replace hd : dt = .seq its n := hd
  subst hc hd
  refine callType_new F.called_enumerate (by decide) (F.typeCall_enumerate_1 _) (F.newCall_enumerate_1 _) (fun obj => F.args_object_init_2 obj _) F.entry_enumerate_new (meets_enum_tup l its n dct sl) ⟨hl, ?_⟩
  have hz : (s.heap.push { cls := .type "tuple_iterator", data := .fields #[.ref l, .int 0 0] }).objs.size = s.heap.objs.size + 1 := Heap.size_push ..
  show _ ∧ _
  rw [hz]
  have he := Heap.get?_push_size (s.heap.push { cls := .type "tuple_iterator", data := .fields #[.ref l, .int 0 0] }) (o := { cls := .type "enumerate", data := .fields #[.none, .bool false, .ref s.heap.objs.size, rawInt 0, .none, .none] }) rfl
  rw [hz] at he
  refine ⟨⟨_, he, rfl⟩, h _ he ⟨_, Heap.get?_push_of_some _ (Heap.get?_push_size _ rfl), rfl, rfl⟩ (by rw [Heap.size_push, hz]) fun b o x => Heap.get?_push_of_some _ (Heap.get?_push_of_some _ x)⟩
end
/-- the i-th pair of enumerate(tuple): a new tuple -/
def Itet (K : PySem.W.Frag) (a : Addr) : It :=
  ⟨fun i H => ∃ xs x, SqT K H a xs ∧ xs[i]? = some x, fun i H x H' => ∃ p y, H p = none ∧ H' = upd H p (.tup [.int i, y]) ∧ x = .ref p ∧ ∀ xs, SqT K H a xs → xs[i]? = some y, fun i H => ∃ xs, SqT K H a xs ∧ xs.length ≤ i⟩
theorem turn_enumT {P : Program} {w : World} {K : PySem.W.Frag} {elts : List Expr} {x1} {tp : Pos} (a e it : Addr) (hei : e ≠ it) : Turn P w K (.Tuple elts x1 tp) (Itet K a) [e, it] e (fun i h => (∃ old, IsEnum h e it i old) ∧ h.IsTupleIter it a i) where
  mem := by simp
  obj := fun i h st b hb => by
    obtain ⟨⟨old, s1⟩, ⟨o, e2, c, d⟩⟩ := st
    rcases List.mem_cons.mp hb with rfl | hb
    · exact ⟨_, s1, fun v z => by
        have z' : Data.fields _ = Data.cell v := z
        cases z'⟩
    · have e' : b = it := by simpa using hb
      subst e'
      exact ⟨o, e2, fun v z => by rw [d] at z; cases z⟩
  keep := fun i h h' st k => ⟨let ⟨old, s1⟩ := st.1; ⟨old, k e (by simp) _ s1⟩, st.2.at fun o q => k it (by simp) o q⟩
  item := by
    intro X hP hw hK hc i pins s σ H E I hf st hg
    subst hP hw hK
    obtain ⟨xs, x, hq, hx⟩ := hg
    obtain ⟨its, rv, p, hz⟩ := I.tuple hq
    obtain ⟨u, hu, ru⟩ := rv.get hx
    obtain ⟨f0, f1, f2, f3, f4, f5⟩ := hf e (by simp)
    obtain ⟨g0, g1, g2, g3, g4, g5⟩ := hf it (by simp)
    obtain ⟨⟨old, s1⟩, s2⟩ := st
    have he : e < s.heap.objs.size := Heap.lt_size s1
    have hit : it < s.heap.objs.size := by obtain ⟨o, q, _⟩ := s2; exact Heap.lt_size q
    have hea : e ≠ a := fun z => by
      subst z
      obtain ⟨o, ho, hc', _⟩ := p
      have := ho.symm.trans s1
      injection this with e3
      rw [e3] at hc'
      injection hc' with e4
      exact absurd e4 (by decide)
    have hai : a ≠ it := fun z => by
      subst z
      obtain ⟨o, ho, hc', _⟩ := p
      obtain ⟨o2, ho2, hc2, _⟩ := s2
      have := ho.symm.trans ho2
      injection this with e3
      rw [e3, hc2] at hc'
      injection hc' with e4
      exact absurd e4 (by decide)
    have hi : i < its.toArray.size := by
      have := (List.getElem?_eq_some_iff.mp hu).1
      simpa using this
    refine wpAny_pyNext_enum_itemD (draws_tup (A := X.A.in1) (I.ok.hd hc) it a hai its.toArray) s1 ⟨s2, p⟩ hi hei (by simp [hei, hea]) fun x' h1 tk hPx heo hit1 ht1 hz1 hk1 => ?_
    obtain rfl : x' = u := by
      have h2 : its.toArray[i]? = some u := by simpa using hu
      exact Option.some.inj (hPx.symm.trans h2)
    refine ⟨_, rfl, wpAny_letOwnedTupleGo_enum heo fun h2 he2 hs2 => ?_⟩
    have hn : H s.heap.objs.size = none := I.hok.fresh (Nat.le_refl _)
    have keep : ∀ b o, b ≠ e → b ≠ it → s.heap.get? b = some o → h2.get? b = some o := fun b o h1' h2' q => (hs2.2 b h1').trans (hk1 b o h1' h2' q)
    have tup : h2.get? s.heap.objs.size = some { cls := .type "tuple", data := .seq #[.int i tk, x'] } := (hs2.2 _ (ngt he)).trans ht1
    have I2 : Inv X pins σ (upd H s.heap.objs.size (.tup [.int i, x])) { s with heap := h2, toks := tk + 1 } := by
      have nitx : ∀ b v, H b = some v → b ≠ e ∧ b ≠ it := fun b v q => ⟨(fun z => by rw [z, f0] at q; cases q), (fun z => by rw [z, g0] at q; cases q)⟩
      refine I.step (g' := s.gens) (d' := s.drawn) (ch := [e, it]) (fun b hb => ?_) (fun b o _ _ hc' q _ => keep b o (fun z => hc' (by simp [z])) (fun z => hc' (by simp [z])) q) (fun b o _ _ hc' q _ => ⟨o.slots, keep b o (fun z => hc' (by simp [z])) (fun z => hc' (by simp [z])) q⟩)
        (fun b o _ q n => by rw [upd_ne (nlt (Heap.lt_size q))]; exact n) (fun b o hc' q => ⟨o, keep b o (fun z => hc' (by simp [z])) (fun z => hc' (by simp [z])) q⟩)
        (fun b xs q => by rw [upd_ne (ne_of_none q hn)]; exact q) (fun b o v q => by rw [upd_ne (ne_of_none q hn)]; exact q) (fun b ps q => ⟨#[], by rw [upd_ne (ne_of_none q hn), q]; simp⟩) (fun m hm => ?_) (fun b v q => ?_) I.bare
      · rcases List.mem_cons.mp hb with rfl | hb
        · exact ⟨f3, f1, f4, f5⟩
        · have e' : b = it := by simpa using hb
          subst e'
          exact ⟨g3, g1, g4, g5⟩
      · obtain ⟨o, es, ep, ho, r⟩ := hm
        exact ⟨o, es, ep, keep _ o (Ne.symm f1) (Ne.symm g1) ho, r⟩
      · by_cases hb : b = s.heap.objs.size
        · subst hb
          rw [upd_same] at q
          cases q
          exact ⟨(show 2 ≤ sizeLine by rw [sizeLine_eq]; decide), [.int i tk, x'], .cons ⟨_, rfl⟩ (.cons ru .nil), ⟨_, tup, rfl, 0, rfl⟩, _, tup, rfl⟩
        · rw [upd_ne hb] at q
          refine (I.hok b v q).stay (fun c w' hc' q' => ?_) (fun c q' => by rw [upd_ne (ne_of_none q' hn)]; exact q') fun c xs q' => by rw [upd_ne (ne_of_none q' hn)]; exact q'
          rcases hc' with z | z
          · subst z; exact keep c w' (nitx c v q).1 (nitx c v q).2 q'
          · exact keep c w' (nitx c _ z).1 (nitx c _ z).2 q'
    refine ⟨.ref s.heap.objs.size, _, I2, rfl, ⟨_, x, hn, rfl, rfl, fun ys hy => by rw [I.tuple_inj hy hq]; exact hx⟩, ⟨⟨x', ?_⟩, ?_⟩, fun b hb => ?_⟩
    · have e1 : ((i + 1 : Nat) : Int) = (i : Int) + 1 := by omega
      rw [e1]
      exact he2
    · exact hit1.1.at fun o q => (hs2.2 _ (Ne.symm hei)).trans q
    · have hb' : b < s.heap.objs.size := by
        rcases List.mem_cons.mp hb with rfl | hb
        · exact he
        · have e' : b = it := by simpa using hb
          subst e'; exact hit
      rw [upd_ne (nlt hb')]
      exact (hf b hb).1
  done := by
    intro X hP hw hK hc i pins s σ H E I hf st hg
    subst hP hw hK
    obtain ⟨xs, hq, hx⟩ := hg
    obtain ⟨its, rv, p, hz⟩ := I.tuple hq
    obtain ⟨g0, g1, g2, g3, g4, g5⟩ := hf it (by simp)
    obtain ⟨⟨old, s1⟩, s2⟩ := st
    have hl := rv.length
    have hT : s.TypeIs (.ref e) "enumerate" := ⟨_, s1, rfl⟩
    unfold pyNext
    refine wpAny_bind (wpAny_attempt (wpAny_callSpecial?_slot (name := Str.ofString "__next__") hT F.slot_enumerate_next (wpAny_call_entry F.slot_enumerate_next hT F.entry_enumerate_next ?_ (F.args_enumerate_next_1 _))))
    show wpAny _ _ (field (.ref e) 2 >>= _) _ _ _; refine wpAny_bind (wpAny_field s1 rfl (x := .ref it) rfl ?_)
    refine wpAny_bind (nextOf_tup_end (A := X.A.in1) (I.ok.hd hc) s2 (show s.heap.IsTuple a its.toArray from p) (by simp; omega) fun h' x he' hx' => ?_)
    obtain ⟨o, ho, hc'⟩ := hx'
    exact wpAny_bind (wpAny_isInstance (T := "StopIteration") (b := true) ⟨o, ho, hc'⟩ isSubtype_stop (wpAny_pure ⟨rfl, I.turned (t' := s.toks) (fun b o hb q => he' b o hb q) g0 g1 g3 g4 g5⟩))
  self := fun A i s Q E st h => by
    obtain ⟨⟨old, s1⟩, s2⟩ := st
    have hT : s.TypeIs (.ref e) "enumerate" := ⟨_, s1, rfl⟩
    refine wpAny_pyIter_slot hT PySem.F.slot_enumerate_iter (wpAny_call_entry PySem.F.slot_enumerate_iter hT PySem.F.entry_enumerate_iter ?_ (PySem.F.args_enumerate_iter_1 _))
    show wpAny _ _ (ret (.ref e)) _ _ s
    exact wpAny_pure ⟨_, rfl, "enumerate", _, hT, PySem.F.slot_enumerate_next.lookup, h⟩
section
variable {X : Cx}
def iEnumT (K : PySem.W.Frag) (ta : TA) : TI := fun σ H R => ta σ H fun vs H1 => ∃ a, vs = [.ref a] ∧ (∃ xs, SqT K H1 a xs) ∧ R (Itet K a) H1
theorem pi_enumT {a : Expr} {ta : TA} {p pos : Pos} {elts : List Expr} {x1} {tp : Pos} (hg : Gl X "enumerate") (hm : X.mg "enumerate" = none) (ha : PA X [a] ta) (hs : starEach [a] X.env = [(false, eval a X.env)] := by rfl) : PI X (.Tuple elts x1 tp) (.Call (.Name "enumerate" p) [a] [] pos) (iEnumT X.K ta) := by
  intro pins s σ H R I h
  refine Call_ (ld_blt I hg hm (u := .type "enumerate") (by decide +kernel) (PyProof.Rows.callWith_type1 (thn (ha pos pins s σ H _ I h) fun us s1 ⟨vs, H1, I1, r1, q1⟩ => ?_) hs rfl))
  obtain ⟨l, e, ⟨xs, hq⟩, q⟩ := q1
  subst e
  cases r1 with
  | cons r rr =>
    cases rr
    cases r
    obtain ⟨its, rv, p, hz⟩ := I1.tuple hq
    refine call_enum_tup (show s1.heap.IsTuple l its.toArray from p) fun h' he hit hsz kp => ?_
    have I2 : Inv X pins σ H1 { s1 with heap := h' } := I1.kept (t' := s1.toks) kp
    have T : Turn X.prog X.w X.K (.Tuple elts x1 tp) (Itet X.K l) [s1.heap.objs.size + 1, s1.heap.objs.size] (s1.heap.objs.size + 1) (fun i h => (∃ old, IsEnum h (s1.heap.objs.size + 1) s1.heap.objs.size i old) ∧ h.IsTupleIter s1.heap.objs.size l i) := turn_enumT l _ _ (nss' _)
    refine T.self X.A 0 { s1 with heap := h' } _ _ ⟨⟨_, he⟩, hit⟩ ?_
    refine ⟨s1.heap.objs.size + 1, _, _, _, H1, rfl, I2, T, ⟨⟨_, he⟩, hit⟩, fun b hb => ?_, q⟩
    have hb' : s1.heap.objs.size ≤ b := by
      rcases List.mem_cons.mp hb with rfl | hb
      · exact Nat.le_succ _
      · have e' : b = s1.heap.objs.size := by simpa using hb
        subst e'; exact Nat.le_refl _
    obtain ⟨f0, f1⟩ := I1.fpOk hb' (I1.hok.fresh hb')
    exact ⟨f0, f1⟩
/-- over enumerate(tuple) -/
theorem for_enumT {K : PySem.W.Frag} {a : Addr} {xs : List V} {g : TG} {tb : TS} {D : Ends} {σ : St} {H : Hp} (Pv : Nat → St → Hp → Prop) (h0 : Pv 0 σ H) (hl : ∀ i σ H, i ≤ xs.length → Pv i σ H → SqT K H a xs)
    (hs : ∀ i x σ H p, xs[i]? = some x → Pv i σ H → H p = none → g (.ref p) σ (upd H p (.tup [.int i, x])) fun σ2 H2 => tb { D with nx := Pv (i + 1), ct := Pv (i + 1), bk := D.nx } σ2 H2) (hd : ∀ σ H, Pv xs.length σ H → D.nx σ H) :
    ∃ W : Nat → Nat → St → Hp → Prop, (∃ m, W 0 m σ H) ∧ ∀ i m σ H, W i m σ H →
      ((Itet K a).stop i H ∧ D.nx σ H) ∨ ((Itet K a).go i H ∧ ∃ N : St → Hp → Prop, (∀ σ' H', N σ' H' → ∃ m', m' < m ∧ W (i + 1) m' σ' H') ∧ ∀ x H', (Itet K a).yld i H x H' → g x σ H' fun σ2 H2 => tb { D with nx := N, ct := N, bk := D.nx } σ2 H2) := by
  refine ⟨fun i m σ H => m = xs.length - i ∧ i ≤ xs.length ∧ Pv i σ H, ⟨xs.length, by simp, Nat.zero_le _, h0⟩, ?_⟩
  rintro i m σ H ⟨rfl, hi, p⟩
  have q := hl i σ H hi p
  by_cases hlt : i < xs.length
  · refine .inr ⟨⟨xs, xs[i], q, by simp [hlt]⟩, Pv (i + 1), fun σ' H' p' => ⟨xs.length - (i + 1), by omega, rfl, hlt, p'⟩, fun x H' y => ?_⟩
    obtain ⟨b, y, hb, e1, e2, hy⟩ := y
    subst e1 e2
    exact hs i y σ H b (hy xs q) p hb
  · have e : i = xs.length := by omega
    subst e
    exact .inl ⟨⟨xs, q, Nat.le_refl _⟩, hd σ H p⟩
end
end L2

namespace K07
open PySem
/-! ### lengths as lists of names and times -/
abbrev Pr := Str × Int
def nmLt (p q : Pr) : Prop := p.1.cps.toList < q.1.cps.toList
def tm : List Pr → Str → Int
  | [], _ => 0
  | p :: ps, x => if p.1 = x then p.2 else tm ps x
def gsum : List Pr → Str → Int
  | [], _ => 0
  | p :: ps, x => (if p.1 = x then p.2 else 0) + gsum ps x
structure Canon (ps : List Pr) : Prop where
  pw : ps.Pairwise nmLt
  ge : ∀ p ∈ ps, 1 ≤ p.2
theorem nlt_irr (a : List Nat) : ¬ a < a := fun h => List.lt_irrefl a h
theorem str_ext' {a b : Str} (h : a.cps.toList = b.cps.toList) : a = b := by
  cases a
  cases b
  congr 1
  exact Array.ext' h
theorem lst_tot' {a b : List Nat} (h : ¬ a < b) (h2 : a ≠ b) : b < a := by
  by_cases h3 : b < a
  · exact h3
  · exact absurd (List.le_antisymm (List.not_lt.mp h3) (List.not_lt.mp h)) h2
theorem tm_none : ∀ {ps : List Pr} {x : Str}, (∀ p ∈ ps, p.1 ≠ x) → tm ps x = 0
  | [], _, _ => rfl
  | p :: ps, x, h => by
    show (if p.1 = x then p.2 else tm ps x) = 0
    rw [if_neg (h p List.mem_cons_self)]
    exact tm_none fun q hq => h q (List.mem_cons_of_mem _ hq)
theorem tm_mem : ∀ {ps : List Pr}, (ps.map (·.1)).Nodup → ∀ {p : Pr}, p ∈ ps → tm ps p.1 = p.2
  | [], _, _, h => nomatch h
  | q :: ps, nd, p, h => by
    rw [List.map_cons, List.nodup_cons] at nd
    show (if q.1 = p.1 then q.2 else tm ps p.1) = p.2
    rcases List.mem_cons.mp h with rfl | h
    · rw [if_pos rfl]
    · rw [if_neg (fun e : q.1 = p.1 => nd.1 (by rw [e]; exact List.mem_map_of_mem h))]
      exact tm_mem nd.2 h
theorem tm_there {ps : List Pr} {x : Str} : tm ps x ≠ 0 → ∃ p ∈ ps, p.1 = x := fun h => by
  by_cases hx : ∃ p ∈ ps, p.1 = x
  · exact hx
  · exact absurd (tm_none fun p hp e => hx ⟨p, hp, e⟩) h
theorem names_nodup {ps : List Pr} (h : ps.Pairwise nmLt) : (ps.map (·.1)).Nodup := by
  rw [List.Nodup, List.pairwise_map]
  exact h.imp fun {a b} hab e => by
    have hab' : a.1.cps.toList < b.1.cps.toList := hab
    rw [e] at hab'
    exact nlt_irr _ hab'
theorem tm_perm {ps qs : List Pr} (nd : (ps.map (·.1)).Nodup) (h : ps.Perm qs) (x : Str) : tm ps x = tm qs x := by
  have nd' : (qs.map (·.1)).Nodup := (h.map _).nodup_iff.mp nd
  by_cases hx : ∃ p ∈ ps, p.1 = x
  · obtain ⟨p, hp, rfl⟩ := hx
    rw [tm_mem nd hp, tm_mem nd' (h.mem_iff.mp hp)]
  · rw [tm_none fun p hp e => hx ⟨p, hp, e⟩, tm_none fun p hp e => hx ⟨p, h.mem_iff.mpr hp, e⟩]
theorem filter_names {ps : List Pr} (nd : (ps.map (·.1)).Nodup) (f : Pr → Bool) : ((ps.filter f).map (·.1)).Nodup := (List.filter_sublist.map _).nodup nd
theorem tm_filter {ps : List Pr} (nd : (ps.map (·.1)).Nodup) (x : Str) : tm (ps.filter fun p => decide (0 < p.2)) x = if 0 < tm ps x then tm ps x else 0 := by
  by_cases hx : ∃ p ∈ ps, p.1 = x
  · obtain ⟨p, hp, rfl⟩ := hx
    rw [tm_mem nd hp]
    by_cases h0 : 0 < p.2
    · rw [if_pos h0, tm_mem (filter_names nd _) (List.mem_filter.mpr ⟨hp, decide_eq_true h0⟩)]
    · rw [if_neg h0]
      refine tm_none fun q hq e => ?_
      obtain ⟨h1, h2⟩ := List.mem_filter.mp hq
      have e2 : q.2 = p.2 := by rw [← tm_mem nd h1, ← tm_mem nd hp, e]
      exact h0 (e2 ▸ of_decide_eq_true h2)
  · have h1 : tm ps x = 0 := tm_none fun p hp e => hx ⟨p, hp, e⟩
    rw [h1, if_neg (Int.lt_irrefl 0)]
    exact tm_none fun p hp e => hx ⟨p, (List.mem_filter.mp hp).1, e⟩
theorem canon_ext : ∀ {ps qs : List Pr}, Canon ps → Canon qs → (∀ x, tm ps x = tm qs x) → ps = qs
  | [], [], _, _, _ => rfl
  | [], q :: qs, _, hq, h => by
    have e := h q.1
    have : tm (q :: qs) q.1 = q.2 := by show (if q.1 = q.1 then q.2 else _) = q.2; rw [if_pos rfl]
    rw [this] at e
    have := hq.ge q List.mem_cons_self
    have e' : (0 : Int) = q.2 := e
    omega
  | p :: ps, [], hp, _, h => by
    have e := h p.1
    have : tm (p :: ps) p.1 = p.2 := by show (if p.1 = p.1 then p.2 else _) = p.2; rw [if_pos rfl]
    rw [this] at e
    have := hp.ge p List.mem_cons_self
    have e' : p.2 = (0 : Int) := e
    omega
  | p :: ps, q :: qs, hp, hq, h => by
    have pp := List.pairwise_cons.mp hp.pw
    have qq := List.pairwise_cons.mp hq.pw
    have hp' : Canon ps := ⟨pp.2, fun x hx => hp.ge x (List.mem_cons_of_mem _ hx)⟩
    have hq' : Canon qs := ⟨qq.2, fun x hx => hq.ge x (List.mem_cons_of_mem _ hx)⟩
    have self : ∀ (a : Pr) (l : List Pr), tm (a :: l) a.1 = a.2 := fun a l => by show (if a.1 = a.1 then a.2 else _) = a.2; rw [if_pos rfl]
    have less : ∀ (a b : Pr) (l : List Pr), nmLt a b → (∀ x ∈ l, nmLt b x) → tm (b :: l) a.1 = 0 := fun a b l hab hl => tm_none fun x hx e => by
      have : nmLt a x := by
        rcases List.mem_cons.mp hx with rfl | hx
        · exact hab
        · exact List.lt_trans (show a.1.cps.toList < b.1.cps.toList from hab) (hl x hx)
      have h2 : a.1.cps.toList < x.1.cps.toList := this
      rw [e] at h2
      exact nlt_irr _ h2
    have e1 : p.1 = q.1 := by
      apply str_ext'
      by_cases h1 : p.1.cps.toList < q.1.cps.toList
      · have := h p.1
        rw [self, less p q qs h1 qq.1] at this
        have h2 := hp.ge p List.mem_cons_self
        omega
      · by_cases h3 : p.1.cps.toList = q.1.cps.toList
        · exact h3
        · have h4 : nmLt q p := lst_tot' h1 h3
          have := h q.1
          rw [self, less q p ps h4 pp.1] at this
          have h2 := hq.ge q List.mem_cons_self
          omega
    have e2 : p.2 = q.2 := by
      have := h p.1
      rw [self] at this
      rw [e1, self] at this
      exact this
    have e3 : p = q := by
      cases p; cases q
      simp only at e1 e2
      rw [e1, e2]
    subst e3
    congr 1
    refine canon_ext hp' hq' fun x => ?_
    by_cases hx : p.1 = x
    · subst hx
      have z : ∀ (l : List Pr), (∀ y ∈ l, nmLt p y) → tm l p.1 = 0 := fun l hl => tm_none fun y hy e => by
        have h2 : p.1.cps.toList < y.1.cps.toList := hl y hy
        rw [e] at h2
        exact nlt_irr _ h2
      rw [z ps pp.1, z qs qq.1]
    · have := h x
      have u : ∀ l : List Pr, tm (p :: l) x = tm l x := fun l => by show (if p.1 = x then p.2 else tm l x) = tm l x; rw [if_neg hx]
      rwa [u, u] at this
theorem gsum_append (ps qs : List Pr) (x : Str) : gsum (ps ++ qs) x = gsum ps x + gsum qs x := by
  induction ps with
  | nil => show gsum qs x = 0 + gsum qs x; omega
  | cons p ps ih =>
    show (if p.1 = x then p.2 else 0) + gsum (ps ++ qs) x = (if p.1 = x then p.2 else 0) + gsum ps x + gsum qs x
    rw [ih]; omega
theorem gsum_none : ∀ {ps : List Pr} {x : Str}, (∀ p ∈ ps, p.1 ≠ x) → gsum ps x = 0
  | [], _, _ => rfl
  | p :: ps, x, h => by
    show (if p.1 = x then p.2 else 0) + gsum ps x = 0
    rw [if_neg (h p List.mem_cons_self), gsum_none fun q hq => h q (List.mem_cons_of_mem _ hq)]
    rfl
theorem gsum_tm : ∀ {ps : List Pr}, (ps.map (·.1)).Nodup → ∀ x, gsum ps x = tm ps x
  | [], _, _ => rfl
  | p :: ps, nd, x => by
    rw [List.map_cons, List.nodup_cons] at nd
    show (if p.1 = x then p.2 else 0) + gsum ps x = if p.1 = x then p.2 else tm ps x
    by_cases h : p.1 = x
    · rw [if_pos h, if_pos h, gsum_none (x := x) fun q hq e => nd.1 (h ▸ e ▸ List.mem_map_of_mem hq)]
      omega
    · rw [if_neg h, if_neg h, gsum_tm nd.2 x]
      omega
/-- a dict's entry set -/
def putS (kvs : List Pr) (x : Str) (n : Int) : List Pr := if (kvs.any fun p => decide (p.1 = x)) = true then kvs.map (fun p => if p.1 = x then (p.1, n) else p) else kvs ++ [(x, n)]
theorem tm_app_out {ps : List Pr} {x y : Str} {n : Int} (h : ∀ p ∈ ps, p.1 ≠ y) : tm (ps ++ [(x, n)]) y = if x = y then n else 0 := by
  induction ps with
  | nil => rfl
  | cons p ps ih =>
    show (if p.1 = y then p.2 else tm (ps ++ [(x, n)]) y) = _
    rw [if_neg (h p List.mem_cons_self), ih fun q hq => h q (List.mem_cons_of_mem _ hq)]
theorem tm_app_other {ps : List Pr} {x y : Str} {n : Int} (h : x ≠ y) : tm (ps ++ [(x, n)]) y = tm ps y := by
  induction ps with
  | nil => show (if x = y then n else 0) = 0; rw [if_neg h]
  | cons p ps ih =>
    show (if p.1 = y then p.2 else tm (ps ++ [(x, n)]) y) = if p.1 = y then p.2 else tm ps y
    rw [ih]
theorem tm_map_other {ps : List Pr} {x y : Str} {n : Int} (h : x ≠ y) : tm (ps.map fun p => if p.1 = x then (p.1, n) else p) y = tm ps y := by
  induction ps with
  | nil => rfl
  | cons p ps ih =>
    rw [List.map_cons]
    by_cases hp : p.1 = x
    · rw [if_pos hp]
      show (if p.1 = y then n else tm _ y) = if p.1 = y then p.2 else tm ps y
      rw [if_neg (fun e => h (hp.symm.trans e)), if_neg (fun e => h (hp.symm.trans e)), ih]
    · rw [if_neg hp]
      show (if p.1 = y then p.2 else tm _ y) = if p.1 = y then p.2 else tm ps y
      rw [ih]
theorem tm_map_self {ps : List Pr} {x : Str} {n : Int} (h : ∃ p ∈ ps, p.1 = x) : tm (ps.map fun p => if p.1 = x then (p.1, n) else p) x = n := by
  induction ps with
  | nil => obtain ⟨p, hp, _⟩ := h; nomatch hp
  | cons p ps ih =>
    rw [List.map_cons]
    by_cases hp : p.1 = x
    · rw [if_pos hp]
      show (if p.1 = x then n else _) = n
      rw [if_pos hp]
    · rw [if_neg hp]
      show (if p.1 = x then p.2 else tm _ x) = n
      rw [if_neg hp]
      refine ih ?_
      obtain ⟨q, hq, e⟩ := h
      rcases List.mem_cons.mp hq with rfl | hq
      · exact absurd e hp
      · exact ⟨q, hq, e⟩
theorem tm_put (kvs : List Pr) (x : Str) (n : Int) (y : Str) : tm (putS kvs x n) y = if x = y then n else tm kvs y := by
  unfold putS
  split
  · rename_i h
    rw [List.any_eq_true] at h
    obtain ⟨p, hp, e⟩ := h
    by_cases hy : x = y
    · subst hy; rw [if_pos rfl, tm_map_self ⟨p, hp, of_decide_eq_true e⟩]
    · rw [if_neg hy, tm_map_other hy]
  · rename_i h
    have no : ∀ p ∈ kvs, p.1 ≠ x := fun p hp e => h (List.any_eq_true.mpr ⟨p, hp, decide_eq_true e⟩)
    by_cases hy : x = y
    · subst hy; rw [tm_app_out no, if_pos rfl, if_pos rfl]
    · rw [if_neg hy, tm_app_other hy]
theorem canon_perm_tm {ps qs : List Pr} (pw : ps.Pairwise nmLt) (h : ps.Perm qs) (x : Str) : tm ps x = tm qs x := tm_perm (names_nodup pw) h x
/-- the times are taken n times -/
theorem tm_scale (ps : List Pr) (n : Int) (x : Str) : tm (ps.map fun p => (p.1, p.2 * n)) x = tm ps x * n := by
  induction ps with
  | nil => show (0 : Int) = 0 * n; rw [Int.zero_mul]
  | cons p ps ih =>
    show (if p.1 = x then p.2 * n else tm _ x) = (if p.1 = x then p.2 else tm ps x) * n
    by_cases h : p.1 = x
    · rw [if_pos h, if_pos h]
    · rw [if_neg h, if_neg h, ih]
theorem Canon.scale {ps : List Pr} {n : Int} (h : Canon ps) (hn : 1 ≤ n) : Canon (ps.map fun p => (p.1, p.2 * n)) := by
  refine ⟨List.pairwise_map.mpr (h.pw.imp fun h => h), fun p hp => ?_⟩
  obtain ⟨q, hq, rfl⟩ := List.mem_map.mp hp
  have h1 := h.ge q hq
  have h2 : 1 * 1 ≤ q.2 * n := Int.mul_le_mul h1 hn (by decide) (by omega)
  show 1 ≤ q.2 * n
  omega
theorem tm_nonneg {ps : List Pr} (h : ∀ p ∈ ps, 0 ≤ p.2) (x : Str) : 0 ≤ tm ps x := by
  induction ps with
  | nil => exact Int.le_refl 0
  | cons p ps ih =>
    show 0 ≤ if p.1 = x then p.2 else tm ps x
    split
    · exact h p List.mem_cons_self
    · exact ih fun q hq => h q (List.mem_cons_of_mem _ hq)
end K07

set_option maxHeartbeats 1000000
namespace K07
open PySem L2
def top (i : Nat) : Stmt := PySem.Challenge.pw_indexwise_k07_whole_for_all_numbers.main.body.getD i (.Pass ⟨0, 0, 0, 0⟩)
/-- the names of the text that are built-in -/
structure Txt (K : PySem.W.Frag) (mg : Str → Option Value) : Prop where
  len : mg "len" = none
  isinstance : mg "isinstance" = none
  int : mg "int" = none
  bool : mg "bool" = none
  tuple : mg "tuple" = none
  all : mg "all" = none
  range : mg "range" = none
  enumerate : mg "enumerate" = none
  sorted : mg "sorted" = none
  max : mg "max" = none
  sum : mg "sum" = none
  dict : mg "dict" = none
  set : mg "set" = none
  list : mg "list" = none
  any : mg "any" = none
def nmB (x : Str) : Bool := decide (1 ≤ x.cps.size) && decide (x.cps.size ≤ 8) && x.cps.toList.all fun c => decide (97 ≤ c) && decide (c ≤ 122)
def azB (c : Nat) : Bool := decide (97 ≤ c) && decide (c ≤ 122)
theorem Rep.tup_inv {H : Hp} {ds : List Dv} {v : V} (h : Rep H (.tup ds) v) : ∃ a vs, v = .ref a ∧ H a = some (.tup vs) ∧ Reps H ds vs := by simpa only [Rep] using h
theorem Reps.two {H : Hp} {d e : Dv} {vs : List V} (h : Reps H [d, e] vs) : ∃ x y, vs = [x, y] ∧ Rep H d x ∧ Rep H e y := by
  simp only [Reps] at h
  obtain ⟨x, r, rfl, h1, y, r2, rfl, h2, rfl⟩ := h
  exact ⟨x, y, rfl, h1, h2⟩
end K07

set_option maxHeartbeats 1000000
namespace K07
open PySem L2
abbrev s_cell_at : Stmt := top 7
abbrev s_mixed : Stmt := top 8
def spCell (K : PySem.W.Frag) : Sp := fun vs H Q _ => ∃ (a : Addr) (ns : List Int) (k : Int), vs = [.ref a, .int k] ∧ SqL K H a (ns.map V.int) ∧ ns.length ≤ 63 ∧ 0 ≤ k ∧ ∀ c, Q (.int c) H
def spMixed : Sp := fun vs H Q _ => ∃ (c k : Int), vs = [.int c, .int k] ∧ ∀ m, 0 ≤ m → Q (.int m) H
section
variable {P : Program} {w : World} {K : PySem.W.Frag} {mg : Str → Option Value} {base : Heap}
theorem ints_at {ns : List Int} {k : Int} (h0 : 0 ≤ k) (h : k < (ns.length : Int)) : ∃ v : Int, atI (ns.map V.int) k = some (.int v) := by
  have hk : k.toNat < ns.length := by omega
  have q : atI (ns.map V.int) ((k.toNat : Nat) : Int) = some (.int ns[k.toNat]) := atI_nat (by rw [List.getElem?_map, List.getElem?_eq_getElem hk] <;> rfl)
  have ek : k = ((k.toNat : Nat) : Int) := by omega
  rw [← ek] at q
  exact ⟨_, q⟩
theorem sc_cell_at : FnScope ["_law_script", "_law_k"] ["_law_script", "_law_k"] (defScope s_cell_at) := ⟨rfl, rfl, rfl, by decide +kernel, rfl, by decide +kernel, by decide +kernel⟩
theorem ok_cell_at {f : Addr} {fd : FuncData} (F : Fun K "_law_cell_at" "_law_cell_at" s_cell_at f fd) (T : Txt K mg) : FnOk P w K mg base CX0 1 f fd ["_law_script", "_law_k"] (spCell K) := by
  refine F.ok sc_cell_at (fun vs H Q E h => ?_) (fun cdv A outer s H vs Q E hr h => ?_)
  · obtain ⟨a, ns, k, rfl, _⟩ := h
    rfl
  obtain ⟨a, ns, k, rfl, hS, h63, h0, q⟩ := h
  refine ⟨_, (pss_cons (ps_if (pt_cmpR op_lt (pv 1) (pe_callB call_len_seq rfl T.len (by decide +kernel) (pa_cons (pv 0) pa_nil)) (nomark _))
      (pss_one (ps_ret (pe_ix ix_list (pv 0) (pv 1) (fun _ _ => rfl))))
      pss_nil)
      (pss_one (ps_ret pe_int))), ?_⟩
  refine ⟨_, rfl, _, rfl, a, _, rfl, .inl hS, _, _, rfl, rfl, _, rfl, ?_⟩
  refine ite2 (fun c => ?_) (fun c => ?_)
  · have c' := of_decide_eq_true c
    rw [List.length_map] at c'
    obtain ⟨v, hv⟩ := ints_at h0 c'
    exact ⟨_, rfl, _, rfl, a, _, _, _, rfl, rfl, hS, hv, q v⟩
  · exact q 0
theorem pow10 (n : Nat) : (0 : Int) < 10 ^ n := Int.pow_pos (by decide)
theorem sc_mixed : FnScope ["_law_cell", "_law_k", "_law_number", "_law_j"] ["_law_cell", "_law_k"] (defScope s_mixed) := ⟨rfl, rfl, rfl, by decide +kernel, rfl, by decide +kernel, by decide +kernel⟩
theorem ok_mixed {f : Addr} {fd : FuncData} (F : Fun K "_law_mixed" "_law_mixed" s_mixed f fd) (T : Txt K mg) : FnOk P w K mg base CX0 1 f fd ["_law_cell", "_law_k"] spMixed := by
  have nd : (["_law_cell", "_law_k", "_law_number", "_law_j"] : List Str).Nodup := sc_mixed.nd
  refine F.ok sc_mixed (fun vs H Q E h => ?_) (fun cdv A outer s H vs Q E hr h => ?_)
  · obtain ⟨c, k, rfl, _⟩ := h
    rfl
  obtain ⟨c, k, rfl, q⟩ := h
  refine ⟨_, (pss_cons (ps_if (PW.pt (pw_and (pt_cmpR op_eq (pe_op op_mod (pv 0) pe_int) pe_int (nomark _)) (pw_and1 (pt_cmpR op_gt (pv 0) (pe_op op_pow pe_int pe_int) (nomark _)))))
      (pss_cons (ps_set (i := 2) nd rfl (Or.inl rfl) (pe_op op_mod (pe_op op_fdiv (pv 0) pe_int) (pe_op op_pow pe_int pe_int)))
      (pss_cons (ps_for PassesOwn.never rfl (pi_range1 rfl T.range (pa_cons (pe_op op_mod (pv 1) pe_int) pa_nil)) (pg_name (i := 3) nd rfl (Or.inl rfl))
      (pss_one (ps_set (i := 2) nd rfl (Or.inl rfl) (pe_op op_fdiv (pv 2) pe_int))))
      (pss_one (ps_ret (pv 2)))))
      pss_nil)
      (pss_cons (ps_set (i := 2) nd rfl (Or.inl rfl) (pe_op op_mod (pe_op op_mul (pe_op op_add (pe_op op_add (pe_op op_mod (pv 0) (pe_op op_pow pe_int pe_int)) (pe_op op_mul pe_int (pv 1))) pe_int) pe_int) pe_int))
      (pss_one (ps_ret (pe_op op_mod (pe_op op_mul (pv 2) (pv 2)) pe_int))))), ?_⟩
  have p15 : CPow 10 15 := ⟨by decide, by decide, by decide⟩
  have p60 : CPow 10 60 := ⟨by decide, by decide, by decide⟩
  refine ⟨_, rfl, _, _, rfl, rfl, (by show (0 : Int) < 2; decide), rfl, _, rfl, ?_⟩
  have rest : Q (.int 0) H → True := fun _ => trivial
  have other : ∀ (num : Option V) (j : Option V), ∃ (_ : Unit), True := fun _ _ => ⟨(), trivial⟩
  refine ite2 (fun h2 => ?_) (fun h2 => ?_)
  · refine ⟨_, rfl, _, _, rfl, rfl, p15, _, _, rfl, rfl, _, rfl, ?_⟩
    refine ite2 (fun hb => ?_) (fun hb => ?_)
    · refine ⟨_, rfl, _, _, rfl, rfl, ⟨by decide, by decide⟩, _, _, rfl, rfl, p60, _, _, rfl, rfl, pow10 _, ?_⟩
      refine ⟨_, rfl, _, _, rfl, rfl, (by show (0 : Int) < 8; decide), _, rfl, ?_, ?_, for_range (fun i σ H' => ∃ (n : Int) (j : Option V), σ = [some (.int c), some (.int k), some (.int n), j] ∧ H' = H ∧ 0 ≤ n) ⟨_, _, rfl, rfl, Int.emod_nonneg _ (Int.ne_of_gt (pow10 _))⟩ ?_ ?_⟩
      · have := Int.emod_nonneg k (show (8 : Int) ≠ 0 by decide); omega
      · have := Int.emod_lt_of_pos k (show (0 : Int) < 8 by decide); omega
      · rintro i σ H' hi ⟨n, j, rfl, rfl, hn⟩
        exact ⟨_, rfl, _, _, rfl, rfl, ⟨by decide, by decide⟩, _, _, rfl, rfl, Int.ediv_nonneg hn (by decide)⟩
      · rintro σ H' ⟨n, j, rfl, rfl, hn⟩
        exact ⟨_, rfl, q n hn⟩
    · refine ⟨_, rfl, _, _, rfl, rfl, p60, _, _, rfl, rfl, pow10 _, _, rfl, _, _, rfl, rfl, .inl ⟨by decide, by decide⟩, _, _, rfl, rfl, _, _, rfl, rfl, _, _, rfl, rfl, .inr ⟨by decide, by decide⟩, _, _, rfl, rfl, (by show (0 : Int) < 2147483647; decide), ?_⟩
      refine ⟨_, rfl, _, rfl, _, _, rfl, rfl, .inl ⟨?_, ?_⟩, _, _, rfl, rfl, (by show (0 : Int) < 2147483629; decide), q _ (Int.emod_nonneg _ (by decide))⟩
      · exact Int.lt_of_lt_of_le (by decide) (Int.emod_nonneg _ (by decide))
      · exact Int.lt_trans (Int.emod_lt_of_pos _ (by decide)) (by decide)
  · refine iteF ?_
    refine ⟨_, rfl, _, _, rfl, rfl, p60, _, _, rfl, rfl, pow10 _, _, rfl, _, _, rfl, rfl, .inl ⟨by decide, by decide⟩, _, _, rfl, rfl, _, _, rfl, rfl, _, _, rfl, rfl, .inr ⟨by decide, by decide⟩, _, _, rfl, rfl, (by show (0 : Int) < 2147483647; decide), ?_⟩
    refine ⟨_, rfl, _, rfl, _, _, rfl, rfl, .inl ⟨?_, ?_⟩, _, _, rfl, rfl, (by show (0 : Int) < 2147483629; decide), q _ (Int.emod_nonneg _ (by decide))⟩
    · exact Int.lt_of_lt_of_le (by decide) (Int.emod_nonneg _ (by decide))
    · exact Int.lt_trans (Int.emod_lt_of_pos _ (by decide)) (by decide)
end
end K07

set_option maxHeartbeats 1000000
namespace K07
open PySem L2
abbrev s_names : Stmt := top 9
/-! ### texts of letters -/
def Az (x : Str) (n : Nat) : Prop := x.cps.toList.length = n ∧ ∀ c ∈ x.cps.toList, azB c = true
theorem Az.len {x : Str} {n : Nat} (h : Az x n) : x.length = n := by
  have e : x.cps.toList.length = x.length := Array.length_toList
  rw [← e]; exact h.1
theorem az_app {x y : Str} {n m : Nat} (h : Az x n) (g : Az y m) : Az (x ++ y) (n + m) := by
  have e := PySem.W.KT.app_list x y
  refine ⟨by rw [e, List.length_append, h.1, g.1], fun c hc => ?_⟩
  rw [e] at hc
  rcases List.mem_append.mp hc with hc | hc
  · exact h.2 c hc
  · exact g.2 c hc
theorem az_one {c : Nat} (h : azB c = true) : Az ⟨#[c]⟩ 1 := ⟨rfl, fun d hd => by
  have e : d = c := by simpa using hd
  rw [e]; exact h⟩
theorem az_empty : Az Str.empty 0 := ⟨rfl, fun d hd => by cases hd⟩
theorem az_from {x : Str} {n : Nat} {i : Int} (h : Az x n) (h0 : 0 ≤ i) (h1 : i ≤ n) : Az (Txt.slice x (some i) none) (n - i.toNat) := by
  have e := PyProof.Rows.slice_from_eq (x := x) (i := i) (b := (x.length : Int)) h0 (by rw [h.len]; exact h1) rfl
  rw [e]
  refine ⟨?_, fun c hc => ?_⟩
  · show ((x.cps.toList.drop i.toNat).take ((x.length : Int) - i).toNat).toArray.toList.length = _
    simp only [List.length_take, List.length_drop, h.1, h.len]
    omega
  · have hc' : c ∈ (x.cps.toList.drop i.toNat).take ((x.length : Int) - i).toNat := by simpa using hc
    exact h.2 c (List.mem_of_mem_drop (List.mem_of_mem_take hc'))
theorem az_to {x : Str} {n : Nat} {i : Int} (h : Az x n) (h0 : 0 ≤ i) (h1 : i ≤ n) : Az (Txt.slice x none (some i)) i.toNat := by
  have e := eq_of_beq (PyProof.Rows.slice_closes_toL (x := x) (j := i) h0 (by rw [h.len]; exact h1))
  rw [e]
  refine ⟨?_, fun c hc => ?_⟩
  · show ((x.cps.toList.drop (0 : Int).toNat).take (i - 0).toNat).toArray.toList.length = _
    simp only [List.length_take, List.length_drop, h.1]
    have : (0 : Int).toNat = 0 := rfl
    omega
  · have hc' : c ∈ (x.cps.toList.drop (0 : Int).toNat).take (i - 0).toNat := by simpa using hc
    exact h.2 c (List.mem_of_mem_drop (List.mem_of_mem_take hc'))
theorem az_join : ∀ {ys : List Str}, (∀ y ∈ ys, Az y 1) → Az (Txt.join "" ys) ys.length := fun {ys} h => by
  show Az (Builtin.Str.glued "" ys) _
  rw [StrLaws.glued_eq_join]
  induction ys with
  | nil => exact az_empty
  | cons y ys ih =>
    cases ys with
    | nil => exact h y List.mem_cons_self
    | cons z zs =>
      show Az (y ++ Str.ofString "" ++ Str.join (Str.ofString "") (z :: zs)) _
      have e := az_app (az_app (h y List.mem_cons_self) (show Az (Str.ofString "") 0 from ⟨rfl, fun d hd => by cases hd⟩)) (ih fun w hw => h w (List.mem_cons_of_mem _ hw))
      have e2 : 1 + 0 + (z :: zs).length = (y :: z :: zs).length := by simp only [List.length_cons]; omega
      rwa [e2] at e
theorem az_mul1 {x : Str} {n : Nat} (h : Az x n) : Az (Txt.mul x 1) n := by
  have e : Txt.mul x 1 = x := by
    unfold Txt.mul
    rw [if_neg (by decide)]
    exact if_pos rfl
  rw [e]; exact h
theorem az_mul0 {x : Str} : Az (Txt.mul x 0) 0 := az_empty
theorem az_nm {x : Str} {n : Nat} (h : Az x n) (h1 : 1 ≤ n) (h8 : n ≤ 8) : nmB x = true := by
  unfold nmB
  have e : x.cps.size = n := by have := h.1; simpa using this
  rw [e, decide_eq_true h1, decide_eq_true h8, Bool.and_self, Bool.true_and]
  exact List.all_eq_true.mpr fun c hc => h.2 c hc
theorem letter : ∀ j, j < 26 → ∃ c, (Str.ofString "abcdefghijklmnopqrstuvwxyz").cps.toList[j]? = some c ∧ azB c = true := by
  have h : ∀ j, j < 26 → (Str.ofString "abcdefghijklmnopqrstuvwxyz").cps.toList[j]? = some (97 + j) := by decide +kernel
  intro j hj
  refine ⟨_, h j hj, ?_⟩
  unfold azB
  rw [decide_eq_true (by omega), decide_eq_true (by omega)]
  rfl
theorem letterI {i : Int} (h0 : 0 ≤ i) (h1 : i < 26) : ∃ c, atI (Str.ofString "abcdefghijklmnopqrstuvwxyz").cps.toList i = some c ∧ azB c = true := by
  obtain ⟨c, e, h⟩ := letter i.toNat (by omega)
  have q := atI_nat e
  rw [show ((i.toNat : Nat) : Int) = i by omega] at q
  exact ⟨c, q, h⟩
def spNms : Sp := fun vs H Q _ => ∃ c : Int, vs = [.int c] ∧ ∀ (H' : Hp) (r : Addr) (xs : List Str), Same H H' → H' r = some (.lst (xs.map V.str)) → xs.length = 5 → (∀ x ∈ xs, nmB x = true) → Q (.ref r) H'
theorem mod_lt {a : Int} (n : Int) (h : 0 < n) : 0 ≤ a % n ∧ a % n < n := ⟨Int.emod_nonneg _ (by omega), Int.emod_lt_of_pos _ h⟩
section
variable {P : Program} {w : World} {K : PySem.W.Frag} {mg : Str → Option Value} {base : Heap}
theorem sc_names : FnScope ["_law_cell", "_law_some", "_law_mixed_here", "_law_stem", "_law_at"] ["_law_cell"] (defScope s_names) := ⟨rfl, rfl, rfl, by decide +kernel, rfl, by decide +kernel, by decide +kernel⟩
theorem ok_names {f : Addr} {fd : FuncData} {k : Nat} (F : Fun K "_law_names" "_law_names" s_names f fd) (T : Txt K mg) (D_law_mixed : Def P w K mg base k "_law_mixed" ["_law_cell", "_law_k"] spMixed) : FnOk P w K mg base CX0 (k + 1) f fd ["_law_cell"] spNms := by
  have nd : (["_law_cell", "_law_some", "_law_mixed_here", "_law_stem", "_law_at"] : List Str).Nodup := sc_names.nd
  refine F.ok sc_names (fun vs H Q E h => ?_) (fun cdv A outer s H vs Q E hr h => ?_)
  · obtain ⟨c, rfl, _⟩ := h
    rfl
  obtain ⟨c, rfl, q⟩ := h
  refine ⟨_, (pss_cons (ps_set (i := 1) nd rfl (Or.inr rfl) pe_str)
      (pss_cons (ps_set (i := 2) nd rfl (Or.inr rfl) (pe_def D_law_mixed hr rfl (pa_cons (pv 0) (pa_cons pe_int pa_nil))))
      (pss_cons (ps_set (i := 3) nd rfl (Or.inr rfl) (pe_bm PySem.F.plainAttrs_str PySem.F.slot_str_join PySem.F.type_str_join mt_join pe_str (pa_cons (pe_lc (own := ["_law_k"]) (ix := [0, 1]) (pi_range1 rfl T.range (pa_cons (pe_op op_mod (pv 2) pe_int) pa_nil)) (.of rfl) rfl (fun _ _ _ => pg_name (i := 0) (lc_nd (l := ["_law_k", "_law_cell", "_law_some"]) ((by decide +kernel)) rfl) rfl (Or.inl rfl)) (gw_name (by decide)) (fun _ _ _ => pif_nil) (fun _ _ _ => (pe_ix ix_str (pv 2) (pe_op op_mod (pe_def D_law_mixed hr rfl (pa_cons (pv 1) (pa_cons (pe_op op_add pe_int (pv 0)) pa_nil))) pe_int) (fun _ _ => rfl)))) pa_nil)))
      (pss_cons (ps_set (i := 4) nd rfl (Or.inr rfl) (pe_op op_mod (pe_op op_fdiv (pv 2) pe_int) (pe_op op_add (pe_callB call_len_str rfl T.len (by decide +kernel) (pa_cons (pv 3) pa_nil)) pe_int)))
      (pss_one (ps_ret (pe_lc (own := ["_law_k"]) (ix := [1, 2, 3, 4]) (pi_range1 rfl T.range (pa_cons pe_int pa_nil)) (.of rfl) rfl (fun _ _ _ => pg_name (i := 0) (lc_nd (l := ["_law_k", "_law_some", "_law_mixed_here", "_law_stem", "_law_at"]) ((by decide +kernel)) rfl) rfl (Or.inl rfl)) (gw_name (by decide)) (fun _ _ _ => pif_nil) (fun _ _ _ => (pe_op op_add_str (pe_op op_add_str (pe_slice sl_str (pv 3) po_none (po_some (pv 4))) (pe_ix ix_str (pv 1) (pe_op op_mod (pe_op op_add (pe_op op_fdiv (pv 2) pe_int) (pe_op op_mul pe_int (pv 0))) pe_int) (fun _ _ => rfl))) (pe_slice sl_str (pv 3) (po_some (pv 4)) po_none)))))))))), ?_⟩
  have abc : (Str.ofString "abcdefghijklmnopqrstuvwxyz").length ≤ sizeLine := by rw [sizeLine_eq]; decide +kernel
  refine ⟨_, rfl, c, 99, rfl, fun m hm => ?_⟩
  obtain ⟨m8, m8'⟩ := mod_lt (a := m) 8 (by decide)
  refine ⟨rfl, _, rfl, _, _, rfl, rfl, (by show (0 : Int) < 8; decide), _, rfl, by omega, by omega, ?_⟩
  refine lc_range (fun i ys H' => H' = H ∧ ∃ zs : List Str, ys = zs.map V.str ∧ zs.length = i ∧ ∀ z ∈ zs, Az z 1) ⟨rfl, [], rfl, rfl, by simp⟩ ?_ ?_
  · rintro i ys H' hi ⟨rfl, zs, rfl, hz, hz1⟩
    refine turn_name ⟨_, rfl, _, rfl, _, rfl, _, _, rfl, rfl, _, _, rfl, fun m2 hm2 => ?_⟩
    obtain ⟨b0, b1⟩ := mod_lt (a := m2) 26 (by decide)
    obtain ⟨ch, hc, hz2⟩ := letterI b0 b1
    refine ⟨_, _, rfl, rfl, (by show (0 : Int) < 26; decide), _, _, ch, rfl, rfl, abc, hc, ?_, rfl, zs ++ [⟨#[ch]⟩], by simp, by simp [hz], fun z hz' => ?_⟩
    · rw [List.length_map, sizeLine_eq]; omega
    · rcases List.mem_append.mp hz' with h | h
      · exact hz1 z h
      · have e : z = ⟨#[ch]⟩ := by simpa using h
        rw [e]; exact az_one hz2
  rintro ys H' ⟨rfl, zs, rfl, hz, hz1⟩ a1 ha1
  have az := az_join hz1
  have hz7 : zs.length ≤ 7 := by omega
  have jl : (zs.map (·.length)).sum + zs.length * (Str.ofString "").length ≤ 16777216 := by
    have e : ∀ l : List Str, (∀ z ∈ l, Az z 1) → (l.map (·.length)).sum = l.length := by
      intro l
      induction l with
      | nil => intro _; rfl
      | cons z l ih =>
        intro h
        rw [List.map_cons, List.sum_cons, ih fun w hw => h w (List.mem_cons_of_mem _ hw), (h z List.mem_cons_self).len, List.length_cons]
        omega
    rw [e zs hz1, show (Str.ofString "").length = 0 from rfl, Nat.mul_zero]
    omega
  refine ⟨_, a1, zs, rfl, rfl, SqL.of upd_same, jl, ?_⟩
  have hstem : (Txt.join (Str.ofString "") zs).length ≤ sizeLine := by rw [show (Txt.join (Str.ofString "") zs).length = zs.length from az.len, sizeLine_eq]; omega
  refine ⟨_, rfl, _, _, rfl, rfl, ⟨by decide, by decide⟩, _, rfl, _, rfl, hstem, _, _, rfl, rfl, _, _, rfl, rfl, ?_, ?_⟩
  · show (0 : Int) < ((Txt.join (Str.ofString "") zs).length : Int) + 1
    omega
  have az' : Az (Txt.join (Str.ofString "") zs) zs.length := az
  have ln : ((Txt.join (Str.ofString "") zs).length : Int) = zs.length := by rw [az'.len]
  have at0 : 0 ≤ m / 8 % (((Txt.join (Str.ofString "") zs).length : Int) + 1) := Int.emod_nonneg _ (by omega)
  have at1 : m / 8 % (((Txt.join (Str.ofString "") zs).length : Int) + 1) ≤ zs.length := by have := Int.emod_lt_of_pos (m / 8) (show 0 < ((Txt.join (Str.ofString "") zs).length : Int) + 1 by omega); omega
  have zf := az_from az' at0 at1
  have zt := az_to az' at0 at1
  refine ⟨5, rfl, by decide, by decide, lc_range (fun i ys H2 => H2 = upd H' a1 (.lst (zs.map V.str)) ∧ ∃ ws : List Str, ys = ws.map V.str ∧ ws.length = i ∧ ∀ z ∈ ws, nmB z = true) ⟨rfl, [], rfl, rfl, by simp⟩ ?_ ?_⟩
  · rintro i ys H2 hi ⟨rfl, ws, rfl, hw, hw1⟩
    obtain ⟨b0, b1⟩ := mod_lt (a := m / 72 + 5 * ((0 : Int) + (i : Int))) 26 (by decide)
    obtain ⟨ch, hc, hz2⟩ := letterI b0 b1
    have z1 := az_app zt (az_one hz2)
    have z2 := az_app z1 zf
    refine turn_name ⟨_, rfl, _, rfl, _, rfl, _, rfl, hstem, _, rfl, _, rfl, _, _, rfl, rfl, ⟨by decide, by decide⟩, _, rfl, _, _, rfl, rfl, .inl ⟨by decide, by decide⟩, _, _, rfl, rfl, _, _, rfl, rfl, (by show (0 : Int) < 26; decide), _, _, ch, rfl, rfl, abc, hc, _, _, rfl, rfl, ?_, _, rfl, _, rfl, _, rfl, _, rfl, hstem, _, _, rfl, rfl, ?_, ?_, rfl, ws ++ [Txt.slice (Txt.join (Str.ofString "") zs) none (some (m / 8 % (((Txt.join (Str.ofString "") zs).length : Int) + 1))) ++ ⟨#[ch]⟩ ++ Txt.slice (Txt.join (Str.ofString "") zs) (some (m / 8 % (((Txt.join (Str.ofString "") zs).length : Int) + 1))) none], by simp, by simp [hw], fun z hz' => ?_⟩
    · rw [zt.len, (az_one hz2).len, sizeLine_eq]; omega
    · rw [z1.len, zf.len, sizeLine_eq]; omega
    · rw [List.length_map, sizeLine_eq]; omega
    · rcases List.mem_append.mp hz' with h | h
      · exact hw1 z h
      · have e := List.mem_singleton.mp h
        rw [e]
        exact az_nm z2 (by omega) (by omega)
  · rintro ys H2 ⟨rfl, ws, rfl, hw, hw1⟩ r hr'
    refine q _ r ws ?_ upd_same hw hw1
    exact (same_new ha1 _).trans (same_new hr' _)
end
end K07

set_option maxHeartbeats 1000000
namespace K07
open PySem L2
abbrev s_made : Stmt := top 10
/-! ### a dict from texts to ints -/
def dk (kvs : List (Str × Int)) : List (Key × V) := kvs.map fun p => (Sum.inr p.1, V.int p.2)
theorem dk_val : ∀ {kvs : List (Str × Int)}, (kvs.map (·.1)).Nodup → ∀ {i : Nat} {p : Str × Int}, kvs[i]? = some p → valV (dk kvs) (Sum.inr p.1) = some (.int p.2)
  | [], _, i, p, e => by simp at e
  | x :: r, nd, i, p, e => by
    rw [List.map_cons, List.nodup_cons] at nd
    cases i with
    | zero =>
      have e' : x = p := by simpa using e
      subst e'
      exact valV_pos (p := (Sum.inr x.1, V.int x.2)) rfl
    | succ i =>
      have hm : p ∈ r := List.mem_of_getElem? (show r[i]? = some p by simpa using e)
      have hne : ¬ (Sum.inr x.1 : Key) = Sum.inr p.1 := fun z => nd.1 (by injection z with z; rw [z]; exact List.mem_map_of_mem hm)
      exact (valV_neg (p := (Sum.inr x.1, V.int x.2)) hne).trans (dk_val nd.2 (i := i) (by simpa using e))
/-- a length as a deep value -/
def lenDv (c : Int) (ps : List (Str × Int)) : Dv := .tup [.int c, .tup (ps.map fun p => .tup [.str p.1, .int p.2])]
def spMade : Sp := fun vs H Q _ => ∃ (c : Int) (d : Addr) (kvs : List (Str × Int)), vs = [.int c, .ref d] ∧ H d = some (.dK (dk kvs)) ∧ (kvs.map (·.1)).Nodup ∧ kvs.length < 64 ∧
  ∀ (H' : Hp) (v : V) (ps : List (Str × Int)), (∀ b o, b ≠ d → H b = some o → H' b = some o) → Rep H' (lenDv c ps) v → ps.Perm (kvs.filter fun p => decide (0 < p.2)) → ps.Pairwise nmLt → Q v H'
def tkV (r : TK) : Str × Int := (r.2.1, match r.2.2 with | [.int n] => n | _ => 0)
theorem reps_tups {H : Hp} : ∀ {rs : List TK}, (∀ r ∈ rs, H r.1 = some (.tup [.str (tkV r).1, .int (tkV r).2])) → Reps H ((rs.map tkV).map fun p => Dv.tup [.str p.1, .int p.2]) (rs.map fun r => V.ref r.1)
  | [], _ => by simp [Reps]
  | r :: rs, h => by
    simp only [List.map_cons, Reps]
    refine ⟨_, _, rfl, ?_, reps_tups fun x hx => h x (List.mem_cons_of_mem _ hx)⟩
    simp only [Rep, Reps]
    exact ⟨r.1, _, rfl, h r List.mem_cons_self, _, _, rfl, rfl, _, _, rfl, rfl, rfl⟩
section
variable {P : Program} {w : World} {K : PySem.W.Frag} {mg : Str → Option Value} {base : Heap}
theorem sc_made : FnScope ["_law_count", "_law_times"] ["_law_count", "_law_times"] (defScope s_made) := ⟨rfl, rfl, rfl, by decide +kernel, rfl, by decide +kernel, by decide +kernel⟩
theorem turn_if {k : Nat} {ix : List Nat} {i : Nat} {tt : TT} {te : TE} {σ : St} {x : V} {ys : List V} {H : Hp} {N : List V → Hp → Prop} (h : tt ((capSt k ix σ).set i (some x)) H fun c H3 => if c = true then te ((capSt k ix σ).set i (some x)) H3 fun y H4 => ys.length < sizeLine ∧ N (ys ++ [y]) H4 else N ys H3) :
    lcTurn k ix (gName i) tt te σ x ys H N := h
theorem ok_made {f : Addr} {fd : FuncData} (F : Fun K "_law_made" "_law_made" s_made f fd) (T : Txt K mg) : FnOk P w K mg base CX0 1 f fd ["_law_count", "_law_times"] spMade := by
  have nd : (["_law_count", "_law_times"] : List Str).Nodup := sc_made.nd
  refine F.ok sc_made (fun vs H Q E h => ?_) (fun cdv A outer s H vs Q E hr h => ?_)
  · obtain ⟨c, d, kvs, rfl, _⟩ := h
    rfl
  obtain ⟨c, d, kvs, rfl, hd, ndk, h64, q⟩ := h
  have hu := hu_of hr
  refine ⟨_, (pss_one (ps_ret (pe_tup (pa_cons (pv 0) (pa_cons (pe_callTy call_tuple_of rfl T.tuple (by decide +kernel) (pa_cons (pe_callB call_sortedT rfl T.sorted (by decide +kernel) (pa_cons (pe_lc (own := ["_law_name"]) (ix := [1]) (pi_dict (pv 1)) (.of rfl) rfl (fun _ _ _ => pg_name (i := 0) (lc_nd (l := ["_law_name", "_law_times"]) ((by decide +kernel)) rfl) rfl (Or.inl rfl)) (gw_name (by decide)) (fun _ _ _ => pif_one (pt_cmpR op_gt (pe_dget hu (pv 1) (pv 0) (fun _ _ => rfl)) pe_int (nomark _))) (fun _ _ _ => (pe_tup (pa_cons (pv 0) (pa_cons (pe_dget hu (pv 1) (pv 0) (fun _ _ => rfl)) pa_nil))))) pa_nil)) pa_nil)) pa_nil))))), ?_⟩
  have hlen : (dk kvs).length = kvs.length := List.length_map _
  have at_ : ∀ {i : Nat} {k : Key} {v : V}, (dk kvs)[i]? = some (k, v) → ∃ p, kvs[i]? = some p ∧ k = Sum.inr p.1 ∧ v = .int p.2 := fun {i k v} e => by
    unfold dk at e
    rw [List.getElem?_map] at e
    cases e2 : kvs[i]? with
    | none => rw [e2] at e; cases e
    | some p =>
      rw [e2] at e
      have e3 : (Sum.inr p.1, V.int p.2) = (k, v) := Option.some.inj e
      injection e3 with e4 e5
      exact ⟨p, rfl, e4.symm, e5.symm⟩
  refine ⟨_, rfl, _, rfl, d, _, rfl, hd, fun o => ?_⟩
  refine lc_by (n := kvs.length) (fun i ys H2 => ∃ rs : List TK, ys = rs.map (fun r => V.ref r.1) ∧ (∀ b o', b ≠ d → H b = some o' → H2 b = some o') ∧ H2 d = some (.frz o (.dK (dk kvs))) ∧ (∀ r ∈ rs, H2 r.1 = some (.tup [.str (tkV r).1, .int (tkV r).2])) ∧ rs.map tkV = (kvs.take i).filter fun p => decide (0 < p.2)) ?_ ?_ ?_ ?_ ?_
  · exact ⟨[], rfl, fun b o' hb e => by rw [upd_ne hb]; exact e, upd_same, by simp, by simp⟩
  · rintro i ys H2 hi ⟨rs, rfl, s2, f2, _⟩
    exact ⟨f2, by rw [hlen]; exact hi⟩
  · rintro ys H2 ⟨rs, rfl, s2, f2, _⟩
    exact ⟨f2, hlen.symm⟩
  · rintro i ys H2 x H3 hi ⟨rs, rfl, s2, f2, t2, e2⟩ ⟨rfl, k, v, hk, rfl⟩
    obtain ⟨p, hp, rfl, rfl⟩ := at_ hk
    have gd : ∀ H4 : Hp, H4 d = some (.frz o (.dK (dk kvs))) → DGet H4 d (.str p.1) (some (.int p.2)) := fun H4 e => .inl ⟨dk kvs, Sum.inr p.1, .inr ⟨o, e⟩, rfl, (dk_val ndk hp).symm⟩
    have ht : kvs.take (i + 1) = kvs.take i ++ [p] := by rw [List.take_add_one, hp]; rfl
    have hrs : rs.length ≤ 64 := by
      have := congrArg List.length e2
      rw [List.length_map] at this
      have h3 := List.length_filter_le (fun p : Str × Int => decide (0 < p.2)) (kvs.take i)
      rw [List.length_take] at h3
      omega
    refine turn_if ⟨_, rfl, _, rfl, d, _, rfl, gd _ f2, _, _, rfl, rfl, _, rfl, ?_⟩
    by_cases hp0 : 0 < p.2
    · rw [decide_eq_true hp0]
      refine iteT ⟨_, rfl, _, rfl, _, rfl, d, _, rfl, gd _ f2, (by show 2 ≤ sizeLine; rw [sizeLine_eq]; decide), fun a ha => ⟨by rw [List.length_map, sizeLine_eq]; omega, rs ++ [(a, p.1, [.int p.2])], by simp, fun b o' hb e => ?_, ?_, fun r hr' => ?_, ?_⟩⟩
      · rw [upd_ne (ne_of_none (s2 b o' hb e) ha)]; exact s2 b o' hb e
      · rw [upd_ne (ne_of_none f2 ha)]; exact f2
      · rcases List.mem_append.mp hr' with h | h
        · rw [upd_ne (ne_of_none (t2 r h) ha)]; exact t2 r h
        · have e := List.mem_singleton.mp h
          subst e
          exact upd_same
      · rw [List.map_append, e2, ht, List.filter_append]
        simp [tkV, hp0]
    · rw [decide_eq_false hp0]
      refine iteF ⟨rs, rfl, s2, f2, t2, ?_⟩
      rw [e2, ht, List.filter_append]
      simp [hp0]
  · rintro ys H2 ⟨rs, rfl, s2, f2, t2, e2⟩ a ha
    rw [List.take_length] at e2
    have n2 : rs.length < 64 := by
      have := congrArg List.length e2
      rw [List.length_map] at this
      have h3 := List.length_filter_le (fun p : Str × Int => decide (0 < p.2)) kvs
      omega
    have shape : ∀ r ∈ rs, ∃ n, r.2.2 = [.int n] ∨ True := fun r _ => ⟨0, .inr trivial⟩
    refine ⟨a, rs.map fun r => (r.1, (tkV r).1, [.int (tkV r).2]), rfl, SqL.of ?_, fun r hr' => ?_, ?_, by rw [List.length_map]; exact n2, fun qs l pq pw hl => ?_⟩
    · rw [upd_same, List.map_map]; rfl
    · obtain ⟨r0, h0, rfl⟩ := List.mem_map.mp hr'
      rw [upd_ne (ne_of_none (t2 r0 h0) ha)]
      exact t2 r0 h0
    · rw [List.map_map]
      have e3 : rs.map ((fun x : TK => x.2.1) ∘ fun r => ((r.1, (tkV r).1, [V.int (tkV r).2]) : TK)) = (rs.map tkV).map (·.1) := by rw [List.map_map]; rfl
      rw [e3, e2]
      exact (List.filter_sublist.map _).nodup ndk
    refine ⟨l, _, rfl, .inl ⟨SqL.of upd_same, fun u hu' => ⟨(by show 2 ≤ sizeLine; rw [sizeLine_eq]; decide), fun t ht' => ?_⟩⟩⟩
    have inq : ∀ r ∈ qs, H2 r.1 = some (.tup [.str (tkV r).1, .int (tkV r).2]) := fun r hr' => by
      obtain ⟨r0, h0, rfl⟩ := List.mem_map.mp (pq.mem_iff.mp hr')
      exact t2 r0 h0
    have sm : ∀ b o', H2 b = some o' → upd (upd (upd (upd H2 a (.lst (rs.map fun r => V.ref r.1))) l (.lst (qs.map fun r => V.ref r.1))) u (.tup (qs.map fun r => V.ref r.1))) t (.tup [.int c, .ref u]) b = some o' :=
      (same_new ha _).trans ((same_new hl _).trans ((same_new hu' _).trans (same_new ht' _)))
    refine q _ (.ref t) (qs.map tkV) (fun b o' hb e => sm b o' (s2 b o' hb e)) ?_ ?_ ?_
    · simp only [lenDv, Rep, Reps]
      refine ⟨t, _, rfl, upd_same, _, _, rfl, rfl, _, _, rfl, ⟨u, qs.map fun r => V.ref r.1, rfl, ?_, reps_tups fun r hr' => sm _ _ (inq r hr')⟩, rfl⟩
      rw [upd_ne (ne_of_none upd_same ht'), upd_same]
    · have := pq.map tkV
      rw [List.map_map] at this
      have e3 : rs.map (tkV ∘ fun r => ((r.1, (tkV r).1, [V.int (tkV r).2]) : TK)) = rs.map tkV := by rfl
      rw [e3, e2] at this
      exact this
    · exact List.pairwise_map.mpr (pw.imp fun {x y} h => h)
end
end K07

set_option maxHeartbeats 1000000
namespace K07
open PySem L2
abbrev s_drawn : Stmt := top 11
theorem inr_iff {a b : Str} : ((Sum.inr a : Key) = Sum.inr b) ↔ a = b := ⟨fun h => by injection h, fun h => by rw [h]⟩
theorem dk_put (kvs : List (Str × Int)) (x : Str) (n : Int) : dk (putS kvs x n) = putK (dk kvs) (Sum.inr x) (.int n) := by
  unfold putS putK dk
  have e : ((kvs.map fun p => ((Sum.inr p.1 : Key), V.int p.2)).any fun kv => decide (kv.1 = Sum.inr x)) = kvs.any fun p => decide (p.1 = x) := by
    rw [List.any_map]
    congr 1
    funext p
    simp [Function.comp]
  rw [e]
  split
  · rw [List.map_map, List.map_map]
    refine List.map_congr_left fun p _ => ?_
    simp only [Function.comp]
    by_cases h : p.1 = x
    · rw [if_pos h, if_pos (inr_iff.mpr h)]
    · rw [if_neg h, if_neg (fun z => h (inr_iff.mp z))]
  · rw [List.map_append]
    rfl
theorem putS_keys {kvs : List (Str × Int)} {x : Str} {n : Int} (nd : (kvs.map (·.1)).Nodup) : ((putS kvs x n).map (·.1)).Nodup := by
  unfold putS
  split
  · have e : (kvs.map (fun p => if p.1 = x then (p.1, n) else p)).map (·.1) = kvs.map (·.1) := by
      rw [List.map_map]
      refine List.map_congr_left fun p _ => ?_
      simp only [Function.comp]
      split <;> rfl
    rw [e]; exact nd
  · rename_i h
    rw [List.map_append, List.nodup_append]
    refine ⟨nd, by simp, fun a ha b hb => ?_⟩
    have hb' : b = x := by simpa using hb
    subst hb'
    intro e
    subst e
    obtain ⟨p, hp, e⟩ := List.mem_map.mp ha
    exact h (List.any_eq_true.mpr ⟨p, hp, decide_eq_true e⟩)
theorem putS_len (kvs : List (Str × Int)) (x : Str) (n : Int) : (putS kvs x n).length ≤ kvs.length + 1 := by
  unfold putS
  split
  · rw [List.length_map]; omega
  · rw [List.length_append]; simp
theorem putS_all {R : Str × Int → Prop} {kvs : List (Str × Int)} {x : Str} {n : Int} (h : ∀ p ∈ kvs, R p) (hx : R (x, n)) : ∀ p ∈ putS kvs x n, R p := by
  intro p hp
  unfold putS at hp
  split at hp
  · obtain ⟨q, hq, e⟩ := List.mem_map.mp hp
    by_cases z : q.1 = x
    · rw [if_pos z] at e
      rw [← e, z]; exact hx
    · rw [if_neg z] at e
      rw [← e]; exact h q hq
  · rcases List.mem_append.mp hp with hp | hp
    · exact h p hp
    · rw [List.mem_singleton.mp hp]; exact hx
/-- what the parts of a drawn length are -/
structure Good (xs : List Str) (ps : List (Str × Int)) : Prop where
  pw : ps.Pairwise nmLt
  nm : ∀ p ∈ ps, nmB p.1 = true ∧ p.1 ∈ xs
  ge : ∀ p ∈ ps, 1 ≤ p.2
  len : ps.length ≤ 63
def spDrawn (K : PySem.W.Frag) : Sp := fun vs H Q _ => ∃ (a b : Addr) (ns : List Int) (xs : List Str), vs = [.ref a, .ref b] ∧ SqL K H a (ns.map V.int) ∧ ns.length ≤ 63 ∧ H b = some (.lst (xs.map V.str)) ∧ xs.length = 5 ∧ (∀ x ∈ xs, nmB x = true) ∧
  ∀ (H' : Hp) (v : V) (c : Int) (ps : List (Str × Int)), Same H H' → Rep H' (lenDv c ps) v → 0 ≤ c → Good xs ps → c ≤ 64 * 10 ^ 58 → (∀ p ∈ ps, p.2 ≤ 10 ^ 58) → Q v H'
section
variable {P : Program} {w : World} {K : PySem.W.Frag} {mg : Str → Option Value} {base : Heap}
theorem pick4 {a b c d i B : Int} (ha : 0 ≤ a ∧ a ≤ B) (hb : 0 ≤ b ∧ b ≤ B) (hc : 0 ≤ c ∧ c ≤ B) (hd : 0 ≤ d ∧ d ≤ B) (h0 : 0 ≤ i) (h1 : i < 4) : ∃ n : Int, atI ([V.int a, V.int b, V.int c, V.int d] : List V) i = some (.int n) ∧ 0 ≤ n ∧ n ≤ B := by
  have e : i = 0 ∨ i = 1 ∨ i = 2 ∨ i = 3 := by omega
  rcases e with rfl | rfl | rfl | rfl
  · exact ⟨a, atI_nat (j := 0) rfl, ha⟩
  · exact ⟨b, atI_nat (j := 1) rfl, hb⟩
  · exact ⟨c, atI_nat (j := 2) rfl, hc⟩
  · exact ⟨d, atI_nat (j := 3) rfl, hd⟩
theorem pick5 {xs : List Str} {i : Int} (hl : xs.length = 5) (h0 : 0 ≤ i) (h1 : i < 5) : ∃ x ∈ xs, atI (xs.map V.str) i = some (.str x) := by
  have hk : i.toNat < xs.length := by omega
  have q := atI_nat (xs := xs.map V.str) (j := i.toNat) (v := .str xs[i.toNat]) (by rw [List.getElem?_map, List.getElem?_eq_getElem hk]; rfl)
  rw [show ((i.toNat : Nat) : Int) = i by omega] at q
  exact ⟨_, List.getElem_mem hk, q⟩
theorem sc_drawn : FnScope ["_law_cells", "_law_names_here", "_law_count", "_law_times", "_law_k", "_law_cell", "_law_mixed_here", "_law_many"] ["_law_cells", "_law_names_here"] (defScope s_drawn) := ⟨rfl, rfl, rfl, by decide +kernel, rfl, by decide +kernel, by decide +kernel⟩
theorem ok_drawn {f : Addr} {fd : FuncData} {k : Nat} (F : Fun K "_law_drawn" "_law_drawn" s_drawn f fd) (T : Txt K mg) (D_law_mixed : Def P w K mg base k "_law_mixed" ["_law_cell", "_law_k"] spMixed) (D_law_made : Def P w K mg base k "_law_made" ["_law_count", "_law_times"] spMade) :
    FnOk P w K mg base CX0 (k + 1) f fd ["_law_cells", "_law_names_here"] (spDrawn K) := by
  have nd : (["_law_cells", "_law_names_here", "_law_count", "_law_times", "_law_k", "_law_cell", "_law_mixed_here", "_law_many"] : List Str).Nodup := sc_drawn.nd
  refine F.ok sc_drawn (fun vs H Q E h => ?_) (fun cdv A outer s H vs Q E hr h => ?_)
  · obtain ⟨a, b, ns, xs, rfl, _⟩ := h
    rfl
  obtain ⟨a, b, ns, xs, rfl, hS, h63, hb, h5, hnm, q⟩ := h
  have hu := hu_of hr
  refine ⟨_, (pss_cons (ps_set (i := 2) nd rfl (Or.inl rfl) pe_int)
      (pss_cons (ps_set (i := 3) nd rfl (Or.inl rfl) pe_dnewK)
      (pss_cons (ps_for PassesOwn.never rfl (pi_enum rfl T.enumerate (pa_cons (pv 0) pa_nil)) (pg_tup rfl (pgs_cons (pg_name (i := 4) nd rfl (Or.inl rfl)) (pgs_cons (pg_name (i := 5) nd rfl (Or.inl rfl)) pgs_nil)))
      (pss_cons (ps_set (i := 6) nd rfl (Or.inl rfl) (pe_def D_law_mixed hr rfl (pa_cons (pv 5) (pa_cons (pv 4) pa_nil))))
      (pss_cons (ps_set (i := 7) nd rfl (Or.inl rfl) (pe_ix ix_list (pe_lst (pa_cons (pe_op op_mod (pe_op op_fdiv (pv 6) pe_int) pe_int) (pa_cons (pe_op op_mod (pe_op op_fdiv (pv 6) pe_int) pe_int) (pa_cons (pe_op op_mod (pv 5) (pe_op op_pow pe_int pe_int)) (pa_cons pe_int pa_nil))))) (pe_op op_mod (pe_op op_fdiv (pv 6) pe_int) pe_int) (fun _ _ => rfl)))
      (pss_one (ps_if (pt_cmpR op_lt (pe_op op_mod (pv 6) pe_int) pe_int (nomark _))
      (pss_one (ps_set (i := 2) nd rfl (Or.inl rfl) (pe_op op_add (pv 2) (pv 7))))
      (pss_one (ps_dput hu (pv 3) (pe_ix ix_list (pv 1) (pe_op op_mod (pv 6) pe_int) (fun _ _ => rfl)) (pv 7) rfl)))))))
      (pss_one (ps_ret (pe_def D_law_made hr rfl (pa_cons (pv 2) (pa_cons (pv 3) pa_nil)))))))), ?_⟩
  intro d hd
  have s0 : Same H (upd H d (.dK [])) := same_new hd _
  refine ⟨_, rfl, a, rfl, ⟨_, s0.seq hS⟩, for_enum (xs := ns.map V.int) (fun i σ H' => ∃ (c : Int) (kvs : List (Str × Int)) (o1 o2 o3 o4 : Option V), σ = [some (.ref a), some (.ref b), some (.int c), some (.ref d), o1, o2, o3, o4] ∧ Same H H' ∧ H' d = some (.dK (dk kvs)) ∧ 0 ≤ c ∧ (kvs.map (·.1)).Nodup ∧ kvs.length ≤ i ∧ (∀ p ∈ kvs, p.1 ∈ xs ∧ 0 ≤ p.2 ∧ p.2 ≤ 10 ^ 58) ∧ c ≤ i * 10 ^ 58)
    ⟨0, [], _, _, _, _, rfl, s0, upd_same, Int.le_refl 0, by simp, by simp, by simp, by simp⟩ (fun i σ H' _ ⟨_, _, _, _, _, _, _, s1, _⟩ => s1.seq hS) ?_ ?_⟩
  · rintro i x σ H1 p hx ⟨c, kvs, o1, o2, o3, o4, rfl, s1, d1, hc, ndk, hl, hall, hcb⟩ hp
    obtain ⟨z, rfl⟩ : ∃ z, x = V.int z := by
      rw [List.getElem?_map] at hx
      cases e : ns[i]? with
      | none => rw [e] at hx; cases hx
      | some z => rw [e] at hx; exact ⟨z, (Option.some.inj hx).symm⟩
    have hi : i < ns.length := by
      have := (List.getElem?_eq_some_iff.mp hx).1
      rwa [List.length_map] at this
    have s2 : Same H1 (upd H1 p (.tup [.int i, .int z])) := same_new hp _
    refine ⟨p, _, rfl, SqT.of upd_same, rfl, _, _, rfl, _, _, rfl, rfl, ?_⟩
    refine ⟨_, rfl, _, rfl, z, i, rfl, fun m hm => ?_⟩
    obtain ⟨a0, a1⟩ := mod_lt (a := m / 8) 4 (by decide)
    have e58 : (10 : Int) ^ (58 : Int).toNat = 10 ^ 58 := rfl
    obtain ⟨n, hn, n0, nB⟩ := pick4 (a := m / 40 % 4) (b := m / 40 % 100) (c := z % 10 ^ (58 : Int).toNat) (d := 1) (B := 10 ^ 58) ⟨(mod_lt 4 (by decide)).1, by have := (mod_lt (a := m / 40) 4 (by decide)).2; omega⟩ ⟨(mod_lt 100 (by decide)).1, by have := (mod_lt (a := m / 40) 100 (by decide)).2; omega⟩ ⟨Int.emod_nonneg _ (Int.ne_of_gt (pow10 _)), by have := Int.emod_lt_of_pos z (pow10 (58 : Int).toNat); rw [e58] at this ⊢; omega⟩ ⟨by decide, by omega⟩ a0 a1
    refine ⟨_, rfl, _, _, rfl, rfl, ⟨by decide, by decide⟩, _, _, rfl, rfl, (by show (0 : Int) < 4; decide), _, rfl, _, _, rfl, rfl, ⟨by decide, by decide⟩, _, _, rfl, rfl, (by show (0 : Int) < 100; decide), _, rfl, _, _, rfl, rfl, ⟨by decide, by decide, by decide⟩, _, _, rfl, rfl, pow10 _, (by show 4 ≤ sizeLine; rw [sizeLine_eq]; decide), fun l hl' => ?_⟩
    have s3 := s2.trans (same_new hl' (.lst [.int (m / 40 % 4), .int (m / 40 % 100), .int (z % 10 ^ (58 : Int).toNat), .int 1]))
    refine ⟨_, rfl, _, _, rfl, rfl, ⟨by decide, by decide⟩, _, _, rfl, rfl, (by show (0 : Int) < 4; decide), l, _, _, .int n, rfl, rfl, SqL.of upd_same, hn, ?_⟩
    refine ⟨_, rfl, _, _, rfl, rfl, (by show (0 : Int) < 8; decide), _, _, rfl, rfl, _, rfl, ?_⟩
    have d3 := s3 _ _ d1
    refine ite2 (fun h2 => ?_) (fun h2 => ?_)
    · refine ⟨_, rfl, _, rfl, _, _, rfl, rfl, _, kvs, _, _, _, _, rfl, s1.trans s3, d3, Int.add_nonneg hc n0, ndk, by omega, hall, by omega⟩
    · obtain ⟨b0, b1⟩ := mod_lt (a := m) 5 (by decide)
      obtain ⟨nm, hnm', ha⟩ := pick5 h5 b0 b1
      refine ⟨_, rfl, _, rfl, _, rfl, _, rfl, _, _, rfl, rfl, (by show (0 : Int) < 5; decide), b, _, _, .str nm, rfl, rfl, SqL.of (s3 _ _ (s1 _ _ hb)), ha, d, _, rfl, DPut.k (k := Sum.inr nm) d3 (by rw [show (dk kvs).length = kvs.length from List.length_map _, sizeLine_eq]; omega), ?_⟩
      refine ⟨c, putS kvs nm n, _, _, _, _, rfl, fun e o he => ?_, ?_, hc, putS_keys ndk, Nat.le_trans (putS_len _ _ _) (by omega), putS_all (R := fun p => p.1 ∈ xs ∧ 0 ≤ p.2 ∧ p.2 ≤ 10 ^ 58) hall ⟨hnm', n0, nB⟩, by omega⟩
      · rw [upd_ne (ne_of_none he hd)]
        exact s3 _ _ (s1 _ _ he)
      · rw [upd_same, dk_put]
  · rintro σ H1 ⟨c, kvs, o1, o2, o3, o4, rfl, s1, d1, hc, ndk, hl, hall, hcb⟩
    rw [List.length_map] at hl
    refine ⟨_, rfl, _, rfl, c, d, kvs, rfl, d1, ndk, by omega, fun H' v ps s2 R pp pw => ?_⟩
    have mem : ∀ p ∈ ps, p ∈ kvs ∧ 0 < p.2 := fun p hp => by
      have := List.mem_filter.mp (pp.mem_iff.mp hp)
      exact ⟨this.1, of_decide_eq_true this.2⟩
    rw [List.length_map] at hcb
    refine q H' v c ps (fun e o he => s2 e o (ne_of_none he hd) (s1 _ _ he)) R hc ⟨pw, fun p hp => ⟨hnm _ (hall p (mem p hp).1).1, (hall p (mem p hp).1).1⟩, fun p hp => (mem p hp).2, ?_⟩ (by omega) (fun p hp => (hall p (mem p hp).1).2.2)
    rw [pp.length_eq]
    exact Nat.le_trans (List.length_filter_le _ _) (by omega)
end
end K07

set_option maxHeartbeats 1000000
namespace K07
open PySem L2
abbrev partsDv (ps : List Pr) : List Dv := ps.map fun p => .tup [.str p.1, .int p.2]
theorem part_at {H : Hp} {ps : List Pr} {us : List V} (ru : Reps H (partsDv ps) us) {i : Nat} {x : V} (hx : us[i]? = some x) : ∃ p b, ps[i]? = some p ∧ x = .ref b ∧ H b = some (.tup [.str p.1, .int p.2]) := by
  obtain ⟨d, hd, Rd⟩ := ru.get hx
  rw [List.getElem?_map] at hd
  cases e : ps[i]? with
  | none => rw [e] at hd; cases hd
  | some p =>
    rw [e] at hd
    obtain rfl : Dv.tup [.str p.1, .int p.2] = d := Option.some.inj hd
    obtain ⟨b, zs, rfl, hb, rz⟩ := Rep.tup_inv Rd
    obtain ⟨y, z, rfl, Ry, Rz⟩ := Reps.two rz
    simp only [Rep] at Ry Rz
    subst Ry Rz
    exact ⟨p, b, rfl, rfl, hb⟩
theorem len_inv {H : Hp} {c : Int} {ps : List Pr} {v : V} (R : Rep H (lenDv c ps) v) : ∃ a b us, v = .ref a ∧ H a = some (.tup [.int c, .ref b]) ∧ H b = some (.tup us) ∧ Reps H (partsDv ps) us ∧ us.length = ps.length := by
  obtain ⟨a, tv, rfl, ha, rt⟩ := Rep.tup_inv R
  obtain ⟨x, y, rfl, R0, R1⟩ := Reps.two rt
  simp only [Rep] at R0
  subst R0
  obtain ⟨b, us, rfl, hb, ru⟩ := Rep.tup_inv R1
  have := ru.length
  rw [List.length_map] at this
  exact ⟨a, b, us, rfl, ha, hb, ru, this⟩
theorem len_rep {H : Hp} {c : Int} {ps : List Pr} {a b : Addr} {us : List V} (ha : H a = some (.tup [.int c, .ref b])) (hb : H b = some (.tup us)) (ru : Reps H (partsDv ps) us) : Rep H (lenDv c ps) (.ref a) := by
  simp only [lenDv, Rep, Reps]
  exact ⟨a, _, rfl, ha, _, _, rfl, rfl, _, _, rfl, ⟨b, us, rfl, hb, ru⟩, rfl⟩
theorem dk_tm : ∀ (kvs : List Pr) (x : Str), (valV (dk kvs) (Sum.inr x)).getD (.int 0) = V.int (tm kvs x)
  | [], x => rfl
  | p :: r, x => by
    by_cases h : p.1 = x
    · have e1 : valV (dk (p :: r)) (Sum.inr x) = some (.int p.2) := valV_pos (p := (Sum.inr p.1, V.int p.2)) (by rw [h])
      rw [e1]
      show V.int p.2 = V.int (if p.1 = x then p.2 else tm r x)
      rw [if_pos h]
    · have e1 : valV (dk (p :: r)) (Sum.inr x) = valV (dk r) (Sum.inr x) := valV_neg (p := (Sum.inr p.1, V.int p.2)) (fun z => h (by injection z))
      rw [e1, dk_tm r x]
      show _ = V.int (if p.1 = x then p.2 else tm r x)
      rw [if_neg h]
theorem gsum_take {ps : List Pr} {i : Nat} {p : Pr} (h : ps[i]? = some p) (x : Str) : gsum (ps.take (i + 1)) x = gsum (ps.take i) x + if p.1 = x then p.2 else 0 := by
  rw [List.take_add_one, h, gsum_append]
  show _ + ((if p.1 = x then p.2 else 0) + 0) = _
  omega
end K07

set_option maxHeartbeats 1000000
namespace K07
open PySem L2
theorem eqI {i j : Int} (h : decide (V.int i = V.int j) = true) : i = j := by
  have := of_decide_eq_true h
  injection this
theorem neI {i j : Int} (h : ¬ decide (V.int i = V.int j) = true) : i ≠ j := fun e => h (by subst e; exact decide_eq_true rfl)
theorem rep_nil {H : Hp} {c : Int} {p q : Addr} (hp : H p = some (.tup [])) (hq : H q = some (.tup [.int c, .ref p])) : Rep H (lenDv c []) (.ref q) := by
  simp only [lenDv, Rep, Reps, List.map_nil]
  exact ⟨q, _, rfl, hq, _, _, rfl, rfl, _, _, rfl, ⟨p, _, rfl, hp, rfl⟩, rfl⟩
theorem rep_one {H : Hp} {c n : Int} {x : Str} {p q r : Addr} (hp : H p = some (.tup [.str x, .int n])) (hq : H q = some (.tup [.ref p])) (hr : H r = some (.tup [.int c, .ref q])) : Rep H (lenDv c [(x, n)]) (.ref r) := by
  simp only [lenDv, Rep, Reps, List.map_nil, List.map_cons]
  exact ⟨r, _, rfl, hr, _, _, rfl, rfl, _, _, rfl, ⟨q, _, rfl, hq, _, _, rfl, ⟨p, _, rfl, hp, _, _, rfl, rfl, _, _, rfl, rfl, rfl⟩, rfl⟩, rfl⟩
theorem z2 : 2 ≤ sizeLine := by rw [sizeLine_eq]; decide
theorem z1 : 1 ≤ sizeLine := by rw [sizeLine_eq]; decide
theorem len_eqok (c : Int) (ps : List Pr) : ∀ d ∈ [Dv.int c, .tup (partsDv ps)], EqOk 6 d := fun d hd => by
  rcases List.mem_cons.mp hd with rfl | hd
  · exact eqok_int.mono (by decide)
  · rw [List.mem_singleton.mp hd]
    refine EqOk.mono (m := 2) (eqok_tup fun e he => ?_) (by decide)
    obtain ⟨p, _, rfl⟩ := List.mem_map.mp he
    refine eqok_tup fun g hg => ?_
    rcases List.mem_cons.mp hg with rfl | hg
    · exact eqok_str
    · rw [List.mem_singleton.mp hg]; exact eqok_int
/-- a dict of a length's parts -/
theorem dict_parts {H : Hp} {ps : List Pr} {us : List V} (ru : Reps H (partsDv ps) us) (nd : (ps.map (·.1)).Nodup) : ∃ qs : List (Addr × Key × V), us = qs.map (fun p => V.ref p.1) ∧ (∀ p ∈ qs, H p.1 = some (.tup [kV p.2.1, p.2.2])) ∧ (qs.map (·.2.1)).Nodup ∧ qs.map (·.2) = dk ps := by
  have main : ∀ (ps : List Pr) (us : List V), Reps H (partsDv ps) us → ∃ qs : List (Addr × Key × V), us = qs.map (fun p => V.ref p.1) ∧ (∀ p ∈ qs, H p.1 = some (.tup [kV p.2.1, p.2.2])) ∧ qs.map (·.2) = dk ps := by
    intro ps
    induction ps with
    | nil => intro us r; simp only [partsDv, List.map_nil, Reps] at r; subst r; exact ⟨[], rfl, by simp, rfl⟩
    | cons p ps ih =>
      intro us r
      simp only [partsDv, List.map_cons, Reps] at r
      obtain ⟨v, rest, rfl, R, rr⟩ := r
      obtain ⟨qs, rfl, h1, h2⟩ := ih rest rr
      obtain ⟨b, zs, rfl, hb, rz⟩ := Rep.tup_inv R
      obtain ⟨y, z, rfl, Ry, Rz⟩ := Reps.two rz
      simp only [Rep] at Ry Rz
      subst Ry Rz
      refine ⟨(b, Sum.inr p.1, .int p.2) :: qs, rfl, fun x hx => ?_, by rw [List.map_cons, h2]; rfl⟩
      rcases List.mem_cons.mp hx with rfl | hx
      · exact hb
      · exact h1 x hx
  obtain ⟨qs, e1, h1, e2⟩ := main ps us ru
  refine ⟨qs, e1, h1, ?_, e2⟩
  have e3 : qs.map (·.2.1) = (ps.map (·.1)).map Sum.inr := by
    have := congrArg (List.map Prod.fst) e2
    unfold dk at this
    rw [List.map_map, List.map_map] at this
    rw [List.map_map]
    exact this
  rw [e3]
  rw [List.Nodup, List.pairwise_map]
  exact nd.imp fun h e => h (by injection e)
end K07

set_option maxHeartbeats 1000000
namespace K07
open PySem L2
abbrev s_other : Stmt := top 12
theorem z3 : 3 ≤ sizeLine := by rw [sizeLine_eq]; decide
theorem Good.canon {xs : List Str} {ps : List Pr} (G : Good xs ps) : Canon ps := ⟨G.pw, G.ge⟩
theorem Good.five {xs : List Str} {ps : List Pr} (G : Good xs ps) (h5 : xs.length = 5) : ps.length ≤ 5 := by
  have h := List.Nodup.length_le_of_subset (l₂ := xs) (names_nodup G.pw) (fun x hx => by
    obtain ⟨p, hp, rfl⟩ := List.mem_map.mp hx
    exact (G.nm p hp).2)
  rw [List.length_map, h5] at h
  exact h
theorem tm_leB {B : Int} (h0 : 0 ≤ B) {ns : List Pr} (h : ∀ p ∈ ns, p.2 ≤ B) (x : Str) : tm ns x ≤ B := by
  induction ns with
  | nil => exact h0
  | cons p ns ih =>
    show (if p.1 = x then p.2 else tm ns x) ≤ B
    split
    · exact h p List.mem_cons_self
    · exact ih fun q hq => h q (List.mem_cons_of_mem _ hq)
theorem pick3 {a b c i B : Int} (ha : 0 ≤ a ∧ a ≤ B) (hb : 0 ≤ b ∧ b ≤ B) (hc : 0 ≤ c ∧ c ≤ B) (h0 : 0 ≤ i) (h1 : i < 3) : ∃ n : Int, atI ([V.int a, V.int b, V.int c] : List V) i = some (.int n) ∧ 0 ≤ n ∧ n ≤ B := by
  have e : i = 0 ∨ i = 1 ∨ i = 2 := by omega
  rcases e with rfl | rfl | rfl
  · exact ⟨a, atI_nat (j := 0) rfl, ha⟩
  · exact ⟨b, atI_nat (j := 1) rfl, hb⟩
  · exact ⟨c, atI_nat (j := 2) rfl, hc⟩
def spOther (K : PySem.W.Frag) : Sp := fun vs H Q _ => ∃ (v : V) (b e : Addr) (c : Int) (ps : List Pr) (ns : List Int) (xs : List Str), vs = [v, .ref b, .ref e] ∧ Rep H (lenDv c ps) v ∧ 0 ≤ c ∧ c ≤ 64 * 10 ^ 58 ∧ Good xs ps ∧ (∀ p ∈ ps, p.2 ≤ 10 ^ 58) ∧ SqL K H b (ns.map V.int) ∧ ns.length ≤ 63 ∧ H e = some (.lst (xs.map V.str)) ∧ xs.length = 5 ∧ (∀ x ∈ xs, nmB x = true) ∧
  ∀ (H' : Hp) (w : V) (d : Int) (qs : List Pr), Same H H' → Rep H' (lenDv d qs) w → 0 ≤ d → d ≤ 65 * 10 ^ 58 → Good xs qs → (∀ p ∈ qs, p.2 ≤ 2 * 10 ^ 58) → Q w H'
section
variable {P : Program} {w : World} {K : PySem.W.Frag} {mg : Str → Option Value} {base : Heap}
theorem sc_other : FnScope ["_law_a", "_law_cells", "_law_names_here", "_law_mixed_here", "_law_times", "_law_way", "_law_name"] ["_law_a", "_law_cells", "_law_names_here"] (defScope s_other) := ⟨rfl, rfl, rfl, by decide +kernel, rfl, by decide +kernel, by decide +kernel⟩
theorem ok_other {f : Addr} {fd : FuncData} {k : Nat} (F : Fun K "_law_other" "_law_other" s_other f fd) (T : Txt K mg) (D_law_mixed : Def P w K mg base k "_law_mixed" ["_law_cell", "_law_k"] spMixed) (D_law_made : Def P w K mg base k "_law_made" ["_law_count", "_law_times"] spMade)
    (D_law_drawn : Def P w K mg base k "_law_drawn" ["_law_cells", "_law_names_here"] (spDrawn K)) : FnOk P w K mg base CX0 (k + 1) f fd ["_law_a", "_law_cells", "_law_names_here"] (spOther K) := by
  have nd : (["_law_a", "_law_cells", "_law_names_here", "_law_mixed_here", "_law_times", "_law_way", "_law_name"] : List Str).Nodup := sc_other.nd
  refine F.ok sc_other (fun vs H Q E h => ?_) (fun cdv A outer s H vs Q E hr h => ?_)
  · obtain ⟨v, b, e, c, ps, ns, xs, rfl, _⟩ := h
    rfl
  obtain ⟨v, b, e, c, ps, ns, xs, rfl, R, hc, hcB, G, gB, hS, h63, he, h5, hnm, q⟩ := h
  have hu := hu_of hr
  obtain ⟨a, a1, us, rfl, ha, ha1, ru, lu⟩ := len_inv R
  obtain ⟨zs, ez, hz, ndz, ezd⟩ := dict_parts ru (names_nodup G.pw)
  have p5 := G.five h5
  refine ⟨_, (pss_cons (ps_set (i := 3) nd rfl (Or.inl rfl) (pe_def D_law_mixed hr rfl (pa_cons (pe_callB (call_sumL rfl) rfl T.sum (by decide +kernel) (pa_cons (pv 1) pa_nil)) (pa_cons pe_int pa_nil))))
      (pss_cons (ps_set (i := 4) nd rfl (Or.inl rfl) (pe_callTy (call_dictP rfl) rfl T.dict (by decide +kernel) (pa_cons (pe_ix ix_tup (pv 0) pe_int (fun _ _ => rfl)) pa_nil)))
      (pss_cons (ps_set (i := 5) nd rfl (Or.inl rfl) (pe_op op_mod (pv 3) pe_int))
      (pss_cons (ps_if (pt_cmpR op_eq (pv 5) pe_int (nomark _))
      (pss_one (ps_ret (pe_def D_law_drawn hr rfl (pa_cons (pv 1) (pa_cons (pv 2) pa_nil)))))
      pss_nil)
      (pss_cons (ps_if (pt_cmpR op_eq (pv 5) pe_int (nomark _))
      (pss_one (ps_ret (pe_tup (pa_cons (pe_ix ix_tup (pv 0) pe_int (fun _ _ => rfl)) (pa_cons (pe_ix ix_tup (pv 0) pe_int (fun _ _ => rfl)) pa_nil)))))
      pss_nil)
      (pss_cons (ps_if (pt_cmpR op_eq (pv 5) pe_int (nomark _))
      (pss_one (ps_ret (pe_def D_law_made hr rfl (pa_cons (pe_op op_add (pe_ix ix_tup (pv 0) pe_int (fun _ _ => rfl)) (pe_op op_mod (pe_op op_fdiv (pv 3) pe_int) pe_int)) (pa_cons (pv 4) pa_nil)))))
      pss_nil)
      (pss_cons (ps_if (pt_cmpR op_eq (pv 5) pe_int (nomark _))
      (pss_one (ps_ret (pe_def D_law_made hr rfl (pa_cons (pe_op op_fdiv (pe_ix ix_tup (pv 0) pe_int (fun _ _ => rfl)) (pe_op op_add pe_int (pe_op op_mod (pe_op op_fdiv (pv 3) pe_int) pe_int))) (pa_cons (pv 4) pa_nil)))))
      pss_nil)
      (pss_cons (ps_set (i := 6) nd rfl (Or.inl rfl) (pe_ix ix_list (pv 2) (pe_op op_mod (pe_op op_fdiv (pv 3) pe_int) pe_int) (fun _ _ => rfl)))
      (pss_cons (ps_if (pt_cmpR op_eq (pv 5) pe_int (nomark _))
      (pss_one (ps_dput hu (pv 4) (pv 6) (pe_op op_add (pe_dget2 hu (pv 4) (pv 6) pe_int ⟨rfl, rfl, rfl, rfl⟩) (pe_op op_mod (pe_op op_fdiv (pv 3) pe_int) pe_int)) rfl))
      pss_nil)
      (pss_cons (ps_if (pt_cmpR op_eq (pv 5) pe_int (nomark _))
      (pss_one (ps_dput hu (pv 4) (pv 6) (pe_callB (call_max2 rfl) rfl T.max (by decide +kernel) (pa_cons pe_int (pa_cons (pe_op op_sub (pe_op op_sub (pe_dget2 hu (pv 4) (pv 6) pe_int ⟨rfl, rfl, rfl, rfl⟩) pe_int) (pe_op op_mod (pe_op op_fdiv (pv 3) pe_int) pe_int)) pa_nil))) rfl))
      pss_nil)
      (pss_one (ps_ret (pe_def D_law_made hr rfl (pa_cons (pe_ix ix_list (pe_lst (pa_cons (pe_ix ix_tup (pv 0) pe_int (fun _ _ => rfl)) (pa_cons (pe_op op_add (pe_ix ix_tup (pv 0) pe_int (fun _ _ => rfl)) (pe_op op_mod (pe_op op_fdiv (pv 3) pe_int) pe_int)) (pa_cons (pe_op op_fdiv (pe_ix ix_tup (pv 0) pe_int (fun _ _ => rfl)) pe_int) pa_nil)))) (pe_op op_mod (pe_op op_fdiv (pv 3) pe_int) pe_int) (fun _ _ => rfl)) (pa_cons (pv 4) pa_nil))))))))))))))), ?_⟩
  refine ⟨_, rfl, b, ns, rfl, hS, _, 70, rfl, fun m hm => ?_⟩
  refine ⟨_, rfl, a, _, 1, .ref a1, rfl, rfl, SqT.of ha, atI_nat (j := 1) rfl, a1, zs, rfl, by rw [ha1, ez], hz, ndz, fun t ht => ?_⟩
  rw [ezd]
  have s0 : Same H (upd H t (.dK (dk ps))) := same_new ht _
  have t0 : upd H t (.dK (dk ps)) t = some (.dK (dk ps)) := upd_same
  generalize upd H t (.dK (dk ps)) = H0 at s0 t0 ⊢
  have inx : ∀ p ∈ ps, p.1 ∈ xs ∧ 0 ≤ p.2 ∧ p.2 ≤ 2 * 10 ^ 58 := fun p hp => ⟨(G.nm p hp).2, by have := G.ge p hp; omega, by have := gB p hp; omega⟩
  -- what made tells
  have mk : ∀ (H1 : Hp) (n : Int), 0 ≤ n → n ≤ 65 * 10 ^ 58 → ∀ (kvs : List Pr), Same H H1 → H1 t = some (.dK (dk kvs)) → (kvs.map (·.1)).Nodup → kvs.length ≤ 6 → (∀ p ∈ kvs, p.1 ∈ xs ∧ 0 ≤ p.2 ∧ p.2 ≤ 2 * 10 ^ 58) → spMade [.int n, .ref t] H1 Q E0 := fun H1 n n0 nB kvs s1 d1 ndk hl hk =>
    ⟨n, t, kvs, rfl, d1, ndk, by omega, fun H2 w qs s2 Rw pq pw => q H2 w n qs (fun g o hg => s2 g o (ne_of_none hg ht) (s1 _ _ hg)) Rw n0 nB
      ⟨pw, fun p hp => ⟨hnm _ (hk p (List.mem_filter.mp (pq.mem_iff.mp hp)).1).1, (hk p (List.mem_filter.mp (pq.mem_iff.mp hp)).1).1⟩, fun p hp => of_decide_eq_true (List.mem_filter.mp (pq.mem_iff.mp hp)).2, by
        rw [pq.length_eq]
        exact Nat.le_trans (List.length_filter_le _ _) (by omega)⟩ (fun p hp => (hk p (List.mem_filter.mp (pq.mem_iff.mp hp)).1).2.2)⟩
  have ndp := names_nodup G.pw
  refine ⟨_, rfl, _, _, rfl, rfl, (by show (0 : Int) < 6; decide), ?_⟩
  refine ⟨_, rfl, rfl, _, rfl, ite2 (fun w0 => ?_) (fun w0 => ?_)⟩
  · exact ⟨_, rfl, _, rfl, b, e, ns, xs, rfl, s0.seq hS, h63, s0 _ _ he, h5, hnm, fun H1 w d qs s1 Rw hd Gq dB bq => q H1 w d qs (s0.trans s1) Rw hd (by omega) Gq (fun p hp => by have := bq p hp; omega)⟩
  refine ⟨_, rfl, rfl, _, rfl, ite2 (fun w1 => ?_) (fun w1 => ?_)⟩
  · refine ⟨_, rfl, a, _, 0, .int c, rfl, rfl, SqT.of (s0 _ _ ha), atI_nat (j := 0) rfl, _, rfl, a, _, 1, .ref a1, rfl, rfl, SqT.of (s0 _ _ ha), atI_nat (j := 1) rfl, z2, fun p hp => ?_⟩
    have s1 := s0.trans (same_new hp (.tup [.int c, .ref a1]))
    exact q _ _ c ps s1 (len_rep upd_same (s1 _ _ ha1) (ru.mono s1)) hc (by omega) G (fun p hp => by have := gB p hp; omega)
  refine ⟨_, rfl, rfl, _, rfl, ite2 (fun w2 => ?_) (fun w2 => ?_)⟩
  · refine ⟨_, rfl, a, _, 0, .int c, rfl, rfl, SqT.of (s0 _ _ ha), atI_nat (j := 0) rfl, _, rfl, _, _, rfl, rfl, ⟨by decide, by decide⟩, _, _, rfl, rfl, (by show (0 : Int) < 3; decide), _, _, rfl, rfl, _, rfl, ?_⟩
    exact mk _ _ (by have := (mod_lt (a := m / 6) 3 (by decide)).1; omega) (by have := (mod_lt (a := m / 6) 3 (by decide)).2; omega) ps s0 t0 ndp (by omega) inx
  refine ⟨_, rfl, rfl, _, rfl, ite2 (fun w3 => ?_) (fun w3 => ?_)⟩
  · obtain ⟨b0, b1⟩ := mod_lt (a := m / 6) 3 (by decide)
    refine ⟨_, rfl, a, _, 0, .int c, rfl, rfl, SqT.of (s0 _ _ ha), atI_nat (j := 0) rfl, _, rfl, _, _, rfl, rfl, ⟨by decide, by decide⟩, _, _, rfl, rfl, (by show (0 : Int) < 3; decide), _, _, rfl, rfl, _, _, rfl, rfl, ⟨by omega, by omega⟩, _, rfl, ?_⟩
    exact mk _ _ (Int.ediv_nonneg hc (by omega)) (Int.le_trans (Int.ediv_le_self _ hc) (by omega)) ps s0 t0 ndp (by omega) inx
  obtain ⟨b0, b1⟩ := mod_lt (a := m / 6) 5 (by decide)
  obtain ⟨nm, hnm', hat⟩ := pick5 h5 b0 b1
  refine ⟨_, rfl, _, rfl, _, _, rfl, rfl, ⟨by decide, by decide⟩, _, _, rfl, rfl, (by show (0 : Int) < 5; decide), e, _, _, .str nm, rfl, rfl, SqL.of (s0 _ _ he), hat, ?_⟩
  have lp : (dk ps).length < sizeLine := by rw [show (dk ps).length = ps.length from List.length_map _, sizeLine_eq]; omega
  have tm0 := tm_nonneg (fun r hr' => (inx r hr').2.1) nm
  have tmB := tm_leB (B := 10 ^ 58) (by omega) gB nm
  obtain ⟨c0, c1⟩ := mod_lt (a := m / 30) 3 (by decide)
  have sput : ∀ n : Int, Same H (upd H0 t (.dK (putK (dk ps) (Sum.inr nm) (.int n)))) := fun n g o hg => by
    rw [upd_ne (ne_of_none hg ht)]; exact s0 _ _ hg
  have dput : ∀ n : Int, upd H0 t (.dK (putK (dk ps) (Sum.inr nm) (.int n))) t = some (.dK (dk (putS ps nm n))) := fun n => by rw [upd_same, dk_put]
  have lput : ∀ n : Int, (putS ps nm n).length ≤ 6 := fun n => Nat.le_trans (putS_len _ _ _) (by omega)
  have aput : ∀ n : Int, 0 ≤ n → n ≤ 2 * 10 ^ 58 → ∀ p ∈ putS ps nm n, p.1 ∈ xs ∧ 0 ≤ p.2 ∧ p.2 ≤ 2 * 10 ^ 58 := fun n n0 nB => putS_all (R := fun p => p.1 ∈ xs ∧ 0 ≤ p.2 ∧ p.2 ≤ 2 * 10 ^ 58) inx ⟨hnm', n0, nB⟩
  refine ⟨_, rfl, rfl, _, rfl, ite2 (fun w4 => ?_) (fun w4 => ?_)⟩
  · refine ⟨_, rfl, t, rfl, .inl ⟨_, .inl t0⟩, _, rfl, _, DGet.k (k := Sum.inr nm) t0, _, rfl, _, _, rfl, rfl, ⟨by decide, by decide⟩, _, _, rfl, rfl, (by show (0 : Int) < 3; decide), tm ps nm, _, dk_tm _ _, rfl, _, rfl, _, rfl, t, _, rfl, DPut.k (k := Sum.inr nm) t0 lp, ?_⟩
    have n0 : 0 ≤ tm ps nm + m / 30 % 3 := by omega
    have sf := sput (tm ps nm + m / 30 % 3)
    have dk1 := dput (tm ps nm + m / 30 % 3)
    generalize upd H0 t (.dK (putK (dk ps) (Sum.inr nm) (.int (tm ps nm + m / 30 % 3)))) = Hf at sf dk1 ⊢
    have ndk := putS_keys (x := nm) (n := tm ps nm + m / 30 % 3) ndp
    have lk := lput (tm ps nm + m / 30 % 3)
    have hk := aput _ n0 (by omega)
    generalize putS ps nm (tm ps nm + m / 30 % 3) = kv at dk1 ndk lk hk
    have w4' := eqI w4
    refine ⟨_, rfl, rfl, _, rfl, ite2 (fun w5 => absurd (eqI w5) (by omega)) (fun w5 => ?_)⟩
    refine ⟨_, rfl, a, _, 0, .int c, rfl, rfl, SqT.of (sf _ _ ha), atI_nat (j := 0) rfl, _, rfl, a, _, 0, .int c, rfl, rfl, SqT.of (sf _ _ ha), atI_nat (j := 0) rfl, _, rfl, _, _, rfl, rfl, ⟨by decide, by decide⟩, _, _, rfl, rfl, (by show (0 : Int) < 30; decide), _, _, rfl, rfl, _, rfl, a, _, 0, .int c, rfl, rfl, SqT.of (sf _ _ ha), atI_nat (j := 0) rfl, _, _, rfl, rfl, ⟨by decide, by decide⟩, z3, fun l hl => ?_⟩
    obtain ⟨n, hn, n0, nB⟩ := pick3 (a := c) (b := c + m / 90 % 30) (c := c / 2) (i := m / 2700 % 3) (B := 65 * 10 ^ 58) ⟨hc, by omega⟩ (by have := mod_lt (a := m / 90) 30 (by decide); omega) ⟨Int.ediv_nonneg hc (by decide), Int.le_trans (Int.ediv_le_self _ hc) (by omega)⟩ (mod_lt 3 (by decide)).1 (mod_lt 3 (by decide)).2
    refine ⟨_, rfl, _, _, rfl, rfl, ⟨by decide, by decide⟩, _, _, rfl, rfl, (by show (0 : Int) < 3; decide), l, _, _, .int n, rfl, rfl, SqL.of upd_same, hn, _, rfl, ?_⟩
    exact mk _ _ n0 nB kv (sf.trans (same_new hl _)) (same_new hl _ _ _ dk1) ndk lk hk
  refine ⟨_, rfl, rfl, _, rfl, ite2 (fun w5 => ?_) (fun w5 => ?_)⟩
  · refine ⟨_, rfl, t, rfl, .inl ⟨_, .inl t0⟩, _, rfl, _, DGet.k (k := Sum.inr nm) t0, tm ps nm, _, dk_tm _ _, rfl, _, rfl, _, _, rfl, rfl, ⟨by decide, by decide⟩, _, _, rfl, rfl, (by show (0 : Int) < 3; decide), _, _, rfl, rfl, _, _, rfl, _, rfl, _, rfl, t, _, rfl, DPut.k (k := Sum.inr nm) t0 lp, ?_⟩
    have n0 : 0 ≤ (if tm ps nm - 1 - m / 30 % 3 > 0 then tm ps nm - 1 - m / 30 % 3 else 0) := by split <;> omega
    have sf := sput (if tm ps nm - 1 - m / 30 % 3 > 0 then tm ps nm - 1 - m / 30 % 3 else 0)
    have dk1 := dput (if tm ps nm - 1 - m / 30 % 3 > 0 then tm ps nm - 1 - m / 30 % 3 else 0)
    generalize upd H0 t (.dK (putK (dk ps) (Sum.inr nm) (.int (if tm ps nm - 1 - m / 30 % 3 > 0 then tm ps nm - 1 - m / 30 % 3 else 0)))) = Hf at sf dk1 ⊢
    have ndk := putS_keys (x := nm) (n := if tm ps nm - 1 - m / 30 % 3 > 0 then tm ps nm - 1 - m / 30 % 3 else 0) ndp
    have lk := lput (if tm ps nm - 1 - m / 30 % 3 > 0 then tm ps nm - 1 - m / 30 % 3 else 0)
    have hk := aput _ n0 (by split <;> omega)
    generalize putS ps nm (if tm ps nm - 1 - m / 30 % 3 > 0 then tm ps nm - 1 - m / 30 % 3 else 0) = kv at dk1 ndk lk hk
    refine ⟨_, rfl, a, _, 0, .int c, rfl, rfl, SqT.of (sf _ _ ha), atI_nat (j := 0) rfl, _, rfl, a, _, 0, .int c, rfl, rfl, SqT.of (sf _ _ ha), atI_nat (j := 0) rfl, _, rfl, _, _, rfl, rfl, ⟨by decide, by decide⟩, _, _, rfl, rfl, (by show (0 : Int) < 30; decide), _, _, rfl, rfl, _, rfl, a, _, 0, .int c, rfl, rfl, SqT.of (sf _ _ ha), atI_nat (j := 0) rfl, _, _, rfl, rfl, ⟨by decide, by decide⟩, z3, fun l hl => ?_⟩
    obtain ⟨n, hn, n0, nB⟩ := pick3 (a := c) (b := c + m / 90 % 30) (c := c / 2) (i := m / 2700 % 3) (B := 65 * 10 ^ 58) ⟨hc, by omega⟩ (by have := mod_lt (a := m / 90) 30 (by decide); omega) ⟨Int.ediv_nonneg hc (by decide), Int.le_trans (Int.ediv_le_self _ hc) (by omega)⟩ (mod_lt 3 (by decide)).1 (mod_lt 3 (by decide)).2
    refine ⟨_, rfl, _, _, rfl, rfl, ⟨by decide, by decide⟩, _, _, rfl, rfl, (by show (0 : Int) < 3; decide), l, _, _, .int n, rfl, rfl, SqL.of upd_same, hn, _, rfl, ?_⟩
    exact mk _ _ n0 nB kv (sf.trans (same_new hl _)) (same_new hl _ _ _ dk1) ndk lk hk
  · have sf := s0
    have dk1 := t0
    have ndk := ndp
    have lk : ps.length ≤ 6 := by omega
    have hk := inx
    refine ⟨_, rfl, a, _, 0, .int c, rfl, rfl, SqT.of (sf _ _ ha), atI_nat (j := 0) rfl, _, rfl, a, _, 0, .int c, rfl, rfl, SqT.of (sf _ _ ha), atI_nat (j := 0) rfl, _, rfl, _, _, rfl, rfl, ⟨by decide, by decide⟩, _, _, rfl, rfl, (by show (0 : Int) < 30; decide), _, _, rfl, rfl, _, rfl, a, _, 0, .int c, rfl, rfl, SqT.of (sf _ _ ha), atI_nat (j := 0) rfl, _, _, rfl, rfl, ⟨by decide, by decide⟩, z3, fun l hl => ?_⟩
    obtain ⟨n, hn, n0, nB⟩ := pick3 (a := c) (b := c + m / 90 % 30) (c := c / 2) (i := m / 2700 % 3) (B := 65 * 10 ^ 58) ⟨hc, by omega⟩ (by have := mod_lt (a := m / 90) 30 (by decide); omega) ⟨Int.ediv_nonneg hc (by decide), Int.le_trans (Int.ediv_le_self _ hc) (by omega)⟩ (mod_lt 3 (by decide)).1 (mod_lt 3 (by decide)).2
    refine ⟨_, rfl, _, _, rfl, rfl, ⟨by decide, by decide⟩, _, _, rfl, rfl, (by show (0 : Int) < 3; decide), l, _, _, .int n, rfl, rfl, SqL.of upd_same, hn, _, rfl, ?_⟩
    exact mk _ _ n0 nB ps (sf.trans (same_new hl _)) (same_new hl _ _ _ dk1) ndk lk hk
end
end K07

set_option maxHeartbeats 1000000
namespace K07
open PySem L2
abbrev s_twos : Stmt := top 13
theorem cut_ints (ns : List Int) (lo hi : Option Int) (h : ns.length ≤ 63) : ∃ ms : List Int, cutV (ns.map V.int) lo hi = ms.map V.int ∧ ms.length ≤ 63 := by
  unfold cutV
  rw [← List.map_drop, ← List.map_take]
  exact ⟨_, rfl, by rw [List.length_take, List.length_drop]; omega⟩
/-- two lengths -/
structure Two (K : PySem.W.Frag) (xs : List Str) (H : Hp) (v : V) : Prop where
  ex : ∃ (p : Addr) (x y : V) (c d : Int) (ps qs : List Pr), v = .ref p ∧ H p = some (.tup [x, y]) ∧ Rep H (lenDv c ps) x ∧ Rep H (lenDv d qs) y ∧ 0 ≤ c ∧ c ≤ 65 * 10 ^ 58 ∧ 0 ≤ d ∧ d ≤ 65 * 10 ^ 58 ∧ Good xs ps ∧ Good xs qs ∧ (∀ p ∈ ps, p.2 ≤ 2 * 10 ^ 58) ∧ (∀ p ∈ qs, p.2 ≤ 2 * 10 ^ 58)
theorem len_tups {H H' : Hp} (h : ∀ b zs, H b = some (.tup zs) → H' b = some (.tup zs)) {c : Int} {ps : List Pr} {v : V} (R : Rep H (lenDv c ps) v) : Rep H' (lenDv c ps) v := by
  obtain ⟨a, b, us, rfl, ha, hb, ru, lu⟩ := len_inv R
  refine len_rep (h _ _ ha) (h _ _ hb) ?_
  have main : ∀ (ps : List Pr) (us : List V), Reps H (partsDv ps) us → Reps H' (partsDv ps) us := by
    intro ps
    induction ps with
    | nil => intro us r; simpa only [partsDv, List.map_nil, Reps] using r
    | cons p ps ih =>
      intro us r
      simp only [partsDv, List.map_cons, Reps, Rep] at r ⊢
      obtain ⟨v, rest, rfl, ⟨g, zs, rfl, hg, z1, z2, rfl, rfl, w1, w2, rfl, rfl, rfl⟩, rr⟩ := r
      exact ⟨_, _, rfl, ⟨g, _, rfl, h _ _ hg, _, _, rfl, rfl, _, _, rfl, rfl, rfl⟩, ih rest rr⟩
  exact main ps us ru
theorem Two.tups {K : PySem.W.Frag} {xs : List Str} {H H' : Hp} (h : ∀ b zs, H b = some (.tup zs) → H' b = some (.tup zs)) {v : V} (t : Two K xs H v) : Two K xs H' v := by
  obtain ⟨p, x, y, c, d, ps, qs, rfl, hp, R1, R2, r⟩ := t.ex
  exact ⟨p, x, y, c, d, ps, qs, rfl, h _ _ hp, len_tups h R1, len_tups h R2, r⟩
def spTwos (K : PySem.W.Frag) : Sp := fun vs H Q _ => ∃ (a : Addr) (ns : List Int), vs = [.ref a] ∧ SqL K H a (ns.map V.int) ∧ ns.length ≤ 63 ∧
  ∀ (H' : Hp) (l : Addr) (ys : List V) (xs : List Str), Same H H' → H' l = some (.lst ys) → xs.length = 5 → (∀ x ∈ xs, nmB x = true) → (∀ y ∈ ys, Two K xs H' y) → Q (.ref l) H'
theorem rng_small {i : Nat} {j : Int} (h : i < (Builtin.Range.rangeSize 1 j 8).toNat) (hj : j < 1000000) : i < 1000000 := by
  unfold Builtin.Range.rangeSize at h
  rw [if_pos (by decide)] at h
  split at h
  · omega
  · simp at h
section
variable {P : Program} {w : World} {K : PySem.W.Frag} {mg : Str → Option Value} {base : Heap}
theorem sc_twos : FnScope ["_law_script", "_law_names_here", "_law_found", "_law_at", "_law_a"] ["_law_script"] (defScope s_twos) := ⟨rfl, rfl, rfl, by decide +kernel, rfl, by decide +kernel, by decide +kernel⟩
theorem ok_twos {f : Addr} {fd : FuncData} {k : Nat} (F : Fun K "_law_twos" "_law_twos" s_twos f fd) (T : Txt K mg) (D_law_cell_at : Def P w K mg base k "_law_cell_at" ["_law_script", "_law_k"] (spCell K)) (D_law_names : Def P w K mg base k "_law_names" ["_law_cell"] spNms)
    (D_law_drawn : Def P w K mg base k "_law_drawn" ["_law_cells", "_law_names_here"] (spDrawn K)) (D_law_other : Def P w K mg base k "_law_other" ["_law_a", "_law_cells", "_law_names_here"] (spOther K)) : FnOk P w K mg base CX0 (k + 1) f fd ["_law_script"] (spTwos K) := by
  have nd : (["_law_script", "_law_names_here", "_law_found", "_law_at", "_law_a"] : List Str).Nodup := sc_twos.nd
  refine F.ok sc_twos (fun vs H Q E h => ?_) (fun cdv A outer s H vs Q E hr h => ?_)
  · obtain ⟨a, ns, rfl, _⟩ := h
    rfl
  obtain ⟨a, ns, rfl, hS, h63, q⟩ := h
  refine ⟨_, (pss_cons (ps_set (i := 1) nd rfl (Or.inl rfl) (pe_def D_law_names hr rfl (pa_cons (pe_def D_law_cell_at hr rfl (pa_cons (pv 0) (pa_cons pe_int pa_nil))) pa_nil)))
      (pss_cons (ps_set (i := 2) nd rfl (Or.inl rfl) (pe_lst pa_nil))
      (pss_cons (ps_for PassesOwn.never rfl (pi_range3 rfl T.range (pa_cons pe_int (pa_cons (pe_callB (call_max2 rfl) rfl T.max (by decide +kernel) (pa_cons pe_int (pa_cons (pe_callB call_len_seq rfl T.len (by decide +kernel) (pa_cons (pv 0) pa_nil)) pa_nil))) (pa_cons pe_int pa_nil)))) (pg_name (i := 3) nd rfl (Or.inl rfl))
      (pss_cons (ps_set (i := 4) nd rfl (Or.inl rfl) (pe_def D_law_drawn hr rfl (pa_cons (pe_slice sl_list (pv 0) (po_some (pv 3)) (po_some (pe_op op_add (pv 3) pe_int))) (pa_cons (pv 1) pa_nil))))
      (pss_one (ps_expr (pe_bm PySem.F.plainAttrs_list PySem.F.slot_list_append PySem.F.type_list_append mt_append (pv 2) (pa_cons (pe_tup (pa_cons (pv 4) (pa_cons (pe_def D_law_other hr rfl (pa_cons (pv 4) (pa_cons (pe_slice sl_list (pv 0) (po_some (pe_op op_add (pv 3) pe_int)) (po_some (pe_op op_add (pv 3) pe_int))) (pa_cons (pv 1) pa_nil)))) pa_nil))) pa_nil))))))
      (pss_one (ps_ret (pv 2)))))), ?_⟩
  refine ⟨_, rfl, a, ns, 0, rfl, hS, h63, Int.le_refl 0, fun c0 => ⟨c0, rfl, fun H1 r xs s1 hr1 h5 hnm => ?_⟩⟩
  refine ⟨Nat.zero_le _, fun l hl => ?_⟩
  have s2 : Same H1 (upd H1 l (.lst [])) := same_new hl _
  have B2 : (if ((ns.map V.int).length : Int) > 2 then ((ns.map V.int).length : Int) else 2) < (1000000 : Int) := by
    rw [List.length_map]
    split <;> omega
  refine ⟨_, rfl, a, _, rfl, .inl ((s1.trans s2).seq hS), _, _, rfl, 1, _, 8, rfl, ⟨by decide, by decide, by decide, by decide, ?B1, B2⟩, for_itf (fun i σ H' => ∃ (o1 o2 : Option V) (ys : List V), σ = [some (.ref a), some (.ref r), some (.ref l), o1, o2] ∧ (∀ b o, b ≠ l → H1 b = some o → H' b = some o) ∧ H' l = some (.lst ys) ∧ ys.length = i ∧ ∀ y ∈ ys, Two K xs H' y) ⟨_, _, [], rfl, fun b o _ e => s2 b o e, upd_same, rfl, by simp⟩ ?T2 ?_⟩
  case B1 =>
    show (-1000000 : Int) ≤ (if ((ns.map V.int).length : Int) > 2 then ((ns.map V.int).length : Int) else 2)
    split <;> omega
  case T2 =>
    rintro i σ H4 hi ⟨o1, o2, ys, rfl, s4, l4, hy, two⟩
    have nl : ∀ b o, H1 b = some o → b ≠ l := fun b o e => ne_of_none e hl
    have s14 : Same H1 H4 := fun b o e => s4 b o (nl b o e) e
    have s04 := s1.trans s14
    obtain ⟨ms, hms, hml⟩ := cut_ints ns (some (1 + (i : Int) * 8)) (some (1 + (i : Int) * 8 + 6)) h63
    obtain ⟨ms2, hms2, hml2⟩ := cut_ints ns (some (1 + (i : Int) * 8 + 4)) (some (1 + (i : Int) * 8 + 8)) h63
    refine ⟨_, rfl, _, rfl, _, rfl, _, rfl, _, _, rfl, rfl, _, rfl, a, _, rfl, s04.seq hS, fun e1 he1 => ?_⟩
    refine ⟨_, rfl, e1, r, ms, xs, rfl, SqL.of (by rw [upd_same]; exact congrArg (fun z => some (HO.lst z)) hms), hml, same_new he1 _ r _ (s14 _ _ hr1), h5, hnm, fun H5 v c ps s5 R hc G cB gB => ?_⟩
    have s45 : Same H4 H5 := (same_new he1 _).trans s5
    have s05 := s04.trans s45
    refine ⟨_, rfl, .inl ⟨rfl, _, SqL.of (s45 _ _ l4)⟩, _, rfl, _, rfl, _, rfl, _, rfl, _, _, rfl, rfl, _, rfl, _, rfl, _, _, rfl, rfl, _, rfl, a, _, rfl, s05.seq hS, fun e2 he2 => ?_⟩
    have s6 : Same H5 (upd H5 e2 (.lst (cutV (ns.map V.int) (some (1 + (i : Int) * 8 + 4)) (some (1 + (i : Int) * 8 + 8))))) := same_new he2 _
    refine ⟨_, rfl, v, e2, r, c, ps, ms2, xs, rfl, R.mono s6, hc, cB, G, gB, SqL.of (by rw [upd_same]; exact congrArg (fun z => some (HO.lst z)) hms2), hml2, s6 _ _ (s45 _ _ (s14 _ _ hr1)), h5, hnm, fun H6 w d qs s7 R2 hd dB G2 gB2 => ?_⟩
    have s46 := s45.trans (s6.trans s7)
    refine ⟨z2, fun p hp => ?_⟩
    have s8 : Same H6 (upd H6 p (.tup [v, w])) := same_new hp _
    have s48 := s46.trans s8
    refine ⟨l, ys, _, rfl, rfl, s48 _ _ l4, by rw [hy, sizeLine_eq]; have := rng_small hi B2; omega, ?_⟩
    have tups : ∀ b zs, upd H6 p (.tup [v, w]) b = some (.tup zs) → upd (upd H6 p (.tup [v, w])) l (.lst (ys ++ [.ref p])) b = some (.tup zs) := fun b zs e => by
      rw [upd_ne (fun z => by rw [z, s48 _ _ l4] at e; cases e)]; exact e
    refine ⟨_, _, ys ++ [.ref p], rfl, fun b o hb e => ?_, upd_same, by rw [List.length_append, hy]; rfl, fun y hy' => ?_⟩
    · rw [upd_ne hb]; exact s48 _ _ (s4 b o hb e)
    · rcases List.mem_append.mp hy' with h | h
      · exact Two.tups (fun b zs e => tups b zs (s48 _ _ e)) (two y h)
      · rw [List.mem_singleton.mp h]
        exact ⟨p, v, w, c, d, ps, qs, rfl, tups _ _ upd_same, len_tups tups (((R.mono s6).mono s7).mono s8), len_tups tups (R2.mono s8), hc, by omega, hd, dB, G, G2, fun p hp => by have := gB p hp; omega, gB2⟩
  rintro σ H4 ⟨o1, o2, ys, rfl, s4, l4, hy, two⟩
  exact ⟨_, rfl, q H4 l ys xs (fun b o e => s4 b o (ne_of_none (s1 _ _ e) hl) (s1 _ _ e)) l4 h5 hnm two⟩
end
end K07

set_option maxHeartbeats 1000000
namespace K07
open PySem L2
abbrev s_names_of : Stmt := top 2
abbrev s_noughts : Stmt := top 3
abbrev s_exceeding : Stmt := top 5
abbrev s_parting : Stmt := top 4
def spNamesOf : Sp := fun vs H Q _ => ∃ (v : V) (c : Int) (ps : List Pr), vs = [v] ∧ Rep H (lenDv c ps) v ∧ ps.length ≤ 40 ∧ ∀ (H' : Hp) (r : Addr), Same H H' → H' r = some (.lst ((ps.map (·.1)).map V.str)) → Q (.ref r) H'
def nil0 (qs : List Str) : List Pr := qs.map fun x => (x, 0)
def spNoughts : Sp := fun vs H Q _ => ∃ (v u : V) (c d : Int) (ps rs : List Pr), vs = [v, u] ∧ Rep H (lenDv c ps) v ∧ Rep H (lenDv d rs) u ∧ ps.length ≤ 20 ∧ rs.length ≤ 20 ∧
  ∀ (H' : Hp) (t : Addr) (qs : List Str), Same H H' → H t = none → H' t = some (.dK (dk (nil0 qs))) → qs.Pairwise txLt → qs.Nodup → (∀ x, x ∈ qs ↔ x ∈ ps.map (·.1) ++ rs.map (·.1)) → qs.length ≤ 40 → Q (.ref t) H'
/-- the first one's count or one of its times is greater -/
def Exc (c d : Int) (ps rs : List Pr) : Prop := d < c ∨ ∃ p ∈ ps, tm rs p.1 < p.2
def spExc : Sp := fun vs H Q _ => ∃ (v u : V) (c d : Int) (ps rs : List Pr), vs = [v, u] ∧ Rep H (lenDv c ps) v ∧ Rep H (lenDv d rs) u ∧ Canon ps ∧ Canon rs ∧ ps.length ≤ 20 ∧ rs.length ≤ 20 ∧ (∀ p ∈ ps, p.2 < 10 ^ 60) ∧
  (d < c → ∀ (H' : Hp) (t : Addr) (kvs : List Pr), Same H H' → H t = none → H' t = some (.dK (dk kvs)) → kvs.length ≤ 41 → (∀ y, tm kvs y = 0) → Q (.ref t) H') ∧
  (¬ d < c → ∀ p ∈ ps, tm rs p.1 < p.2 → ∀ (H' : Hp) (t : Addr) (kvs : List Pr), Same H H' → H t = none → H' t = some (.dK (dk kvs)) → kvs.length ≤ 41 → (∀ y, tm kvs y = if p.1 = y then (d - c) / (p.2 - tm rs p.1) + 1 else 0) → Q (.ref t) H') ∧ (¬ Exc c d ps rs → ∀ H', Same H H' → Q .non H')
def spPart : Sp := fun vs H Q _ => ∃ (v u : V) (c d : Int) (ps rs : List Pr), vs = [v, u] ∧ Rep H (lenDv c ps) v ∧ Rep H (lenDv d rs) u ∧ Canon ps ∧ Canon rs ∧ ps.length ≤ 20 ∧ rs.length ≤ 20 ∧
  (c ≠ d → ∀ (H' : Hp) (t : Addr) (kvs : List Pr), Same H H' → H t = none → H' t = some (.dK (dk kvs)) → kvs.length ≤ 41 → (∀ y, tm kvs y = 0) → Q (.ref t) H') ∧
  (c = d → ∀ x, tm ps x ≠ tm rs x → ∀ (H' : Hp) (t : Addr) (kvs : List Pr), Same H H' → H t = none → H' t = some (.dK (dk kvs)) → kvs.length ≤ 41 → (∀ y, tm kvs y = if x = y then 1 else 0) → Q (.ref t) H') ∧
  (c = d → (∀ x, tm ps x = tm rs x) → ∀ H', Same H H' → Q .non H')
theorem nil0_len (qs : List Str) : (nil0 qs).length = qs.length := List.length_map _
theorem tm_nil0 (qs : List Str) (y : Str) : tm (nil0 qs) y = 0 := by
  induction qs with
  | nil => rfl
  | cons q qs ih => show (if q = y then 0 else tm (nil0 qs) y) = 0; rw [ih]; split <;> rfl
theorem putS_new {kvs : List Pr} {x : Str} {n : Int} (h : x ∉ kvs.map (·.1)) : putS kvs x n = kvs ++ [(x, n)] := by
  unfold putS
  rw [if_neg]
  intro e
  rw [List.any_eq_true] at e
  obtain ⟨p, hp, e⟩ := e
  exact h (List.mem_map.mpr ⟨p, hp, of_decide_eq_true e⟩)
section
variable {P : Program} {w : World} {K : PySem.W.Frag} {mg : Str → Option Value} {base : Heap}
theorem sc_names_of : FnScope ["a"] ["a"] (defScope s_names_of) := ⟨rfl, rfl, rfl, by decide +kernel, rfl, by decide +kernel, by decide +kernel⟩
theorem ok_names_of {f : Addr} {fd : FuncData} (F : Fun K "names_of" "names_of" s_names_of f fd) (T : Txt K mg) : FnOk P w K mg base CX0 1 f fd ["a"] spNamesOf := by
  refine F.ok sc_names_of (fun vs H Q E h => ?_) (fun cdv A outer s H vs Q E hr h => ?_)
  · obtain ⟨v, c, ps, rfl, _⟩ := h
    rfl
  obtain ⟨v, c, ps, rfl, R, h40, q⟩ := h
  obtain ⟨a, a1, us, rfl, ha, ha1, ru, lu⟩ := len_inv R
  refine ⟨_, (pss_one (ps_ret (pe_lc (own := ["name", "times"]) (ix := []) (pi_tup (pe_ix ix_tup (pv 0) pe_int (fun _ _ => rfl))) (.of rfl) rfl (fun _ _ _ => pg_tup rfl (pgs_cons (pg_name (i := 0) (lc_nd (l := ["name", "times"]) ((by decide +kernel)) rfl) rfl (Or.inl rfl)) (pgs_cons (pg_name (i := 1) (lc_nd (l := ["name", "times"]) ((by decide +kernel)) rfl) rfl (Or.inl rfl)) pgs_nil))) (gw_two (by decide) (by decide)) (fun _ _ _ => pif_nil) (fun _ _ _ => (pv 0))))), ?_⟩
  refine ⟨_, rfl, a, _, 1, .ref a1, rfl, rfl, SqT.of ha, atI_nat (j := 1) rfl, a1, rfl, ⟨us, SqT.of ha1⟩, lc_tup (xs := us) (fun i ys H' => H' = H ∧ ys = (ps.take i).map fun p => V.str p.1) ⟨rfl, rfl⟩ (fun i ys H' _ p => by rw [p.1]; exact SqT.of ha1) ?_ ?_⟩
  · rintro i ys H' x hx ⟨rfl, rfl⟩
    obtain ⟨p, b, hp, rfl, hb⟩ := part_at ru hx
    have hi : i < us.length := (List.getElem?_eq_some_iff.mp hx).1
    refine turn_two hb ⟨_, rfl, ?_, rfl, ?_⟩
    · rw [List.length_map, List.length_take, sizeLine_eq]; omega
    · rw [List.take_add_one, hp, List.map_append]; rfl
  · rintro ys H' ⟨rfl, rfl⟩ r hr'
    refine q _ r (same_new hr' _) ?_
    rw [upd_same, lu, List.take_length, List.map_map]; rfl
theorem sc_noughts : FnScope ["a", "b", "numbers", "name"] ["a", "b"] (defScope s_noughts) := ⟨rfl, rfl, rfl, by decide +kernel, rfl, by decide +kernel, by decide +kernel⟩
theorem ok_noughts {f : Addr} {fd : FuncData} {k : Nat} (F : Fun K "noughts" "noughts" s_noughts f fd) (T : Txt K mg) (Dnames_of : Def P w K mg base k "names_of" ["a"] spNamesOf) : FnOk P w K mg base CX0 (k + 1) f fd ["a", "b"] spNoughts := by
  have nd : (["a", "b", "numbers", "name"] : List Str).Nodup := sc_noughts.nd
  refine F.ok sc_noughts (fun vs H Q E h => ?_) (fun cdv A outer s H vs Q E hr h => ?_)
  · obtain ⟨v, u, c, d, ps, rs, rfl, _⟩ := h
    rfl
  obtain ⟨v, u, c, d, ps, rs, rfl, R1, R2, l1, l2, q⟩ := h
  have hu := hu_of hr
  refine ⟨_, (pss_cons (ps_set (i := 2) nd rfl (Or.inl rfl) pe_dnewK)
      (pss_cons (ps_for PassesOwn.never rfl (pi_list (pe_callB (call_sortedS rfl) rfl T.sorted (by decide +kernel) (pa_cons (pe_callTy (call_setS rfl) rfl T.set (by decide +kernel) (pa_cons (pe_op op_catQ (pe_def Dnames_of hr rfl (pa_cons (pv 0) pa_nil)) (pe_def Dnames_of hr rfl (pa_cons (pv 1) pa_nil))) pa_nil)) pa_nil))) (pg_name (i := 3) nd rfl (Or.inl rfl))
      (pss_one (ps_dput hu (pv 2) (pv 3) pe_int rfl)))
      (pss_one (ps_ret (pv 2))))), ?_⟩
  refine fun t ht => ?_
  have s0 : Same H (upd H t (.dK [])) := same_new ht _
  have t0 : upd H t (.dK []) t = some (.dK []) := upd_same
  generalize upd H t (.dK []) = H0 at s0 t0 ⊢
  refine ⟨_, rfl, v, c, ps, rfl, R1.mono s0, by omega, fun H1 r1 s1 hr1 => ?_⟩
  refine ⟨_, rfl, u, d, rs, rfl, (R2.mono s0).mono s1, by omega, fun H2 r2 s2 hr2 => ?_⟩
  refine ⟨r1, r2, _, _, rfl, rfl, SqL.of (s2 _ _ hr1), SqL.of hr2, ?_, fun l3 hl3 => ?_⟩
  · simp only [List.length_map, sizeLine_eq]; omega
  have s3 := same_new hl3 (.lst ((ps.map (·.1)).map V.str ++ (rs.map (·.1)).map V.str))
  have h3 : upd H2 l3 (.lst ((ps.map (·.1)).map V.str ++ (rs.map (·.1)).map V.str)) l3 = some (.lst ((ps.map (·.1) ++ rs.map (·.1)).map V.str)) := by rw [upd_same, List.map_append]
  have s03 := s1.trans (s2.trans s3)
  generalize upd H2 l3 (.lst ((ps.map (·.1)).map V.str ++ (rs.map (·.1)).map V.str)) = H3 at s3 h3 s03 ⊢
  have ly : (ps.map (·.1) ++ rs.map (·.1)).length ≤ 40 := by simp only [List.length_append, List.length_map]; omega
  refine ⟨l3, ps.map (·.1) ++ rs.map (·.1), rfl, SqL.of h3, by omega, fun S zs hS ndz mz lz => ?_⟩
  refine ⟨S, zs, rfl, upd_same, ndz, by omega, fun l qs hl pq pw => ?_⟩
  have ndq : qs.Nodup := pq.nodup_iff.mpr ndz
  have lq : qs.length ≤ 40 := by rw [pq.length_eq]; omega
  have s4 := same_new hS (SetO P w S zs)
  have s5 := same_new hl (.lst (qs.map V.str))
  have s05 : Same H0 (upd (upd H3 S (SetO P w S zs)) l (.lst (qs.map V.str))) := s03.trans (s4.trans s5)
  have h5 : upd (upd H3 S (SetO P w S zs)) l (.lst (qs.map V.str)) l = some (.lst (qs.map V.str)) := upd_same
  have lt : l ≠ t := Ne.symm (ne_of_none (s4 _ _ (s03 _ _ t0)) hl)
  refine ⟨l, rfl, ⟨_, SqL.of h5⟩, for_list (xs := qs.map V.str) (fun i σ H' => ∃ (o1 : Option V), σ = [some v, some u, some (.ref t), o1] ∧ (∀ b o, b ≠ t → upd (upd H3 S (SetO P w S zs)) l (.lst (qs.map V.str)) b = some o → H' b = some o) ∧ H' t = some (.dK (dk (nil0 (qs.take i)))))
    ⟨_, rfl, fun b o _ e => e, s05 _ _ t0⟩ (fun i σ H' _ ⟨_, _, sx, _⟩ => SqL.of (sx _ _ lt h5)) ?T1 ?_⟩
  case T1 =>
    rintro i x σ H6 hx ⟨o1, rfl, s6, t6⟩
    rw [List.getElem?_map] at hx
    obtain ⟨y, hy, rfl⟩ := Option.map_eq_some_iff.mp hx
    have hti : qs.take (i + 1) = qs.take i ++ [y] := by rw [List.take_add_one, hy]; rfl
    refine ⟨_, rfl, _, rfl, t, _, rfl, DPut.k (k := Sum.inr y) t6 ?_, ?_⟩
    · rw [show (dk (nil0 (qs.take i))).length = (qs.take i).length by unfold dk nil0; rw [List.length_map, List.length_map], List.length_take, sizeLine_eq]; omega
    have hn : y ∉ (nil0 (qs.take i)).map (·.1) := by
      have e : (nil0 (qs.take i)).map (·.1) = qs.take i := by unfold nil0; rw [List.map_map]; exact List.map_id _
      rw [e]
      have hd : (qs.take (i + 1)).Nodup := (List.take_sublist _ _).nodup ndq
      rw [hti, List.nodup_append] at hd
      exact fun z => hd.2.2 y z y (by simp) rfl
    refine ⟨_, rfl, fun b o hb e => ?_, ?_⟩
    · rw [upd_ne hb]; exact s6 b o hb e
    · rw [upd_same, ← dk_put, putS_new hn, hti]
      unfold nil0
      rw [List.map_append]; rfl
  rintro σ H6 ⟨o1, rfl, s6, t6⟩
  rw [List.length_map, List.take_length] at t6
  exact ⟨_, rfl, q H6 t qs (fun b o e => s6 b o (ne_of_none e ht) (s05 _ _ (s0 _ _ e))) ht t6 pw ndq (fun x => by rw [pq.mem_iff]; exact mz x) lq⟩
theorem sc_exceeding : FnScope ["a", "b", "numbers", "other", "name", "times", "gain"] ["a", "b"] (defScope s_exceeding) := ⟨rfl, rfl, rfl, by decide +kernel, rfl, by decide +kernel, by decide +kernel⟩
theorem ok_exceeding {f : Addr} {fd : FuncData} {k : Nat} (F : Fun K "exceeding" "exceeding" s_exceeding f fd) (T : Txt K mg) (Dnoughts : Def P w K mg base k "noughts" ["a", "b"] spNoughts) : FnOk P w K mg base CX0 (k + 1) f fd ["a", "b"] spExc := by
  have nd : (["a", "b", "numbers", "other", "name", "times", "gain"] : List Str).Nodup := sc_exceeding.nd
  refine F.ok sc_exceeding (fun vs H Q E h => ?_) (fun cdv A outer s H vs Q E hr h => ?_)
  · obtain ⟨v, u, c, d, ps, rs, rfl, _⟩ := h
    rfl
  obtain ⟨v, u, c, d, ps, rs, rfl, R1, R2, C1, C2, l1, l2, hB, qz, qy, qn⟩ := h
  have hu := hu_of hr
  obtain ⟨a, a1, us, rfl, ha, ha1, ru, lu⟩ := len_inv R1
  obtain ⟨b, b1, ws, rfl, hb, hb1, rw', lw⟩ := len_inv R2
  obtain ⟨zs, ez, hz, ndz, ezd⟩ := dict_parts rw' (names_nodup C2.pw)
  refine ⟨_, (pss_cons (ps_set (i := 2) nd rfl (Or.inl rfl) (pe_def Dnoughts hr rfl (pa_cons (pv 0) (pa_cons (pv 1) pa_nil))))
      (pss_cons (ps_if (pt_cmpR op_gt (pe_ix ix_tup (pv 0) pe_int (fun _ _ => rfl)) (pe_ix ix_tup (pv 1) pe_int (fun _ _ => rfl)) (nomark _))
      (pss_one (ps_ret (pv 2)))
      pss_nil)
      (pss_cons (ps_set (i := 3) nd rfl (Or.inl rfl) (pe_callTy (call_dictP rfl) rfl T.dict (by decide +kernel) (pa_cons (pe_ix ix_tup (pv 1) pe_int (fun _ _ => rfl)) pa_nil)))
      (pss_cons (ps_for PassesOwn.never rfl (pi_tup (pe_ix ix_tup (pv 0) pe_int (fun _ _ => rfl))) (pg_tup rfl (pgs_cons (pg_name (i := 4) nd rfl (Or.inl rfl)) (pgs_cons (pg_name (i := 5) nd rfl (Or.inl rfl)) pgs_nil)))
      (pss_cons (ps_set (i := 6) nd rfl (Or.inl rfl) (pe_op op_sub (pv 5) (pe_dget2 hu (pv 3) (pv 4) pe_int ⟨rfl, rfl, rfl, rfl⟩)))
      (pss_one (ps_if (pt_cmpR op_gt (pv 6) pe_int (nomark _))
      (pss_cons (ps_dput hu (pv 2) (pv 4) (pe_op op_add (pe_op op_fdivB (pe_op op_sub (pe_ix ix_tup (pv 1) pe_int (fun _ _ => rfl)) (pe_ix ix_tup (pv 0) pe_int (fun _ _ => rfl))) (pv 6)) pe_int) rfl)
      (pss_one (ps_ret (pv 2))))
      pss_nil))))
      (pss_one (ps_ret pe_non)))))), ?_⟩
  refine ⟨_, rfl, _, rfl, .ref a, .ref b, c, d, ps, rs, rfl, R1, R2, l1, l2, fun H1 t qs s1 ht t1 pw ndq mq lq => ?_⟩
  refine ⟨_, rfl, a, _, 0, .int c, rfl, rfl, SqT.of (s1 _ _ ha), atI_nat (j := 0) rfl, _, rfl, b, _, 0, .int d, rfl, rfl, SqT.of (s1 _ _ hb), atI_nat (j := 0) rfl, _, _, rfl, rfl, _, rfl, ite2 (fun h => ?_) (fun h => ?_)⟩
  · exact ⟨_, rfl, qz (of_decide_eq_true h) H1 t (nil0 qs) s1 ht t1 (by rw [nil0_len]; omega) (tm_nil0 qs)⟩
  have hcd : ¬ d < c := fun z => h (decide_eq_true z)
  refine ⟨_, rfl, b, _, 1, .ref b1, rfl, rfl, SqT.of (s1 _ _ hb), atI_nat (j := 1) rfl, b1, zs, rfl, by rw [s1 _ _ hb1, ez], fun p hp => s1 _ _ (hz p hp), ndz, fun o ho => ?_⟩
  rw [ezd]
  have s2 := same_new ho (.dK (dk rs))
  have o2 : upd H1 o (.dK (dk rs)) o = some (.dK (dk rs)) := upd_same
  have s12 : Same H (upd H1 o (.dK (dk rs))) := s1.trans s2
  have t2 := s2 _ _ t1
  generalize upd H1 o (.dK (dk rs)) = H2 at s2 o2 s12 t2 ⊢
  refine ⟨_, rfl, a, _, 1, .ref a1, rfl, rfl, SqT.of (s12 _ _ ha), atI_nat (j := 1) rfl, a1, rfl, ⟨us, SqT.of (s12 _ _ ha1)⟩, for_tup (xs := us) (fun i σ H' => ∃ (o1 o3 o4 : Option V), σ = [some (.ref a), some (.ref b), some (.ref t), some (.ref o), o1, o3, o4] ∧ H' = H2 ∧ ∀ p ∈ ps.take i, ¬ tm rs p.1 < p.2)
    ⟨_, _, _, rfl, rfl, by simp⟩ (fun i σ H' _ ⟨_, _, _, _, e, _⟩ => by rw [e]; exact SqT.of (s12 _ _ ha1)) ?T1 ?_⟩
  case T1 =>
    rintro i x σ H3 hx ⟨o1, o3, o4, rfl, rfl, hno⟩
    obtain ⟨p, e, hp, rfl, he⟩ := part_at ru hx
    have hpm := List.mem_of_getElem? hp
    have p1 := hB p hpm
    have g0 := tm_nonneg (fun r hr' => Int.le_trans (by decide) (C2.ge r hr')) p.1
    refine ⟨e, _, rfl, SqT.of (s12 _ _ he), rfl, _, _, rfl, _, _, rfl, rfl, ?_⟩
    refine ⟨_, rfl, _, rfl, o, rfl, .inl ⟨_, .inl o2⟩, _, rfl, _, DGet.k (k := Sum.inr p.1) o2, p.2, tm rs p.1, rfl, dk_tm _ _, ?_⟩
    refine ⟨_, rfl, _, _, rfl, rfl, _, rfl, ite2 (fun hg => ?_) (fun hg => ?_)⟩
    · have hg' : 0 < p.2 - tm rs p.1 := of_decide_eq_true hg
      refine ⟨_, rfl, b, _, 0, .int d, rfl, rfl, SqT.of (s12 _ _ hb), atI_nat (j := 0) rfl, _, rfl, a, _, 0, .int c, rfl, rfl, SqT.of (s12 _ _ ha), atI_nat (j := 0) rfl, _, _, rfl, rfl, _, rfl, _, _, rfl, rfl, ⟨hg', by omega⟩, _, _, rfl, rfl, _, rfl, _, rfl, t, _, rfl, DPut.k (k := Sum.inr p.1) t2 ?_, ?_⟩
      · rw [show (dk (nil0 qs)).length = qs.length by unfold dk nil0; rw [List.length_map, List.length_map], sizeLine_eq]; omega
      refine ⟨_, rfl, qy hcd p hpm (by omega) _ t (putS (nil0 qs) p.1 ((d - c) / (p.2 - tm rs p.1) + 1)) (fun g ob hg2 => by rw [upd_ne (ne_of_none hg2 ht)]; exact s12 _ _ hg2) ht (by rw [upd_same, dk_put]) (Nat.le_trans (putS_len _ _ _) (by rw [nil0_len]; omega)) fun y => by rw [tm_put, tm_nil0]⟩
    · have hg' : ¬ 0 < p.2 - tm rs p.1 := fun z => hg (decide_eq_true z)
      refine ⟨_, _, _, rfl, rfl, fun r hr' => ?_⟩
      rw [List.take_add_one, hp] at hr'
      rcases List.mem_append.mp hr' with h2 | h2
      · exact hno r h2
      · have e2 : r = p := by simpa using h2
        subst e2; omega
  rintro σ H3 ⟨o1, o3, o4, rfl, rfl, hno⟩
  rw [lu, List.take_length] at hno
  exact qn (fun z => z.elim hcd fun ⟨p, hp, h2⟩ => hno p hp h2) _ s12
theorem sc_parting : FnScope ["a", "b", "numbers", "one", "other", "name"] ["a", "b"] (defScope s_parting) := ⟨rfl, rfl, rfl, by decide +kernel, rfl, by decide +kernel, by decide +kernel⟩
theorem ok_parting {f : Addr} {fd : FuncData} {k : Nat} (F : Fun K "parting" "parting" s_parting f fd) (T : Txt K mg) (Dnoughts : Def P w K mg base k "noughts" ["a", "b"] spNoughts) : FnOk P w K mg base CX0 (k + 1) f fd ["a", "b"] spPart := by
  have nd : (["a", "b", "numbers", "one", "other", "name"] : List Str).Nodup := sc_parting.nd
  refine F.ok sc_parting (fun vs H Q E h => ?_) (fun cdv A outer s H vs Q E hr h => ?_)
  · obtain ⟨v, u, c, d, ps, rs, rfl, _⟩ := h
    rfl
  obtain ⟨v, u, c, d, ps, rs, rfl, R1, R2, C1, C2, l1, l2, qz, qy, qn⟩ := h
  have hu := hu_of hr
  obtain ⟨a, a1, us, rfl, ha, ha1, ru, lu⟩ := len_inv R1
  obtain ⟨b, b1, ws, rfl, hb, hb1, rw', lw⟩ := len_inv R2
  obtain ⟨zs, ez, hz, ndz, ezd⟩ := dict_parts ru (names_nodup C1.pw)
  obtain ⟨ys, ey, hy, ndy, eyd⟩ := dict_parts rw' (names_nodup C2.pw)
  refine ⟨_, (pss_cons (ps_set (i := 2) nd rfl (Or.inl rfl) (pe_def Dnoughts hr rfl (pa_cons (pv 0) (pa_cons (pv 1) pa_nil))))
      (pss_cons (ps_if (pt_cmpR op_ne (pe_ix ix_tup (pv 0) pe_int (fun _ _ => rfl)) (pe_ix ix_tup (pv 1) pe_int (fun _ _ => rfl)) (nomark _))
      (pss_one (ps_ret (pv 2)))
      pss_nil)
      (pss_cons (ps_set (i := 3) nd rfl (Or.inl rfl) (pe_callTy (call_dictP rfl) rfl T.dict (by decide +kernel) (pa_cons (pe_ix ix_tup (pv 0) pe_int (fun _ _ => rfl)) pa_nil)))
      (pss_cons (ps_set (i := 4) nd rfl (Or.inl rfl) (pe_callTy (call_dictP rfl) rfl T.dict (by decide +kernel) (pa_cons (pe_ix ix_tup (pv 1) pe_int (fun _ _ => rfl)) pa_nil)))
      (pss_cons (ps_for PassesOwn.never rfl (pi_list (pe_callTy (call_listD rfl) rfl T.list (by decide +kernel) (pa_cons (pv 2) pa_nil))) (pg_name (i := 5) nd rfl (Or.inl rfl))
      (pss_one (ps_if (pt_cmpR op_ne (pe_dget2 hu (pv 3) (pv 5) pe_int ⟨rfl, rfl, rfl, rfl⟩) (pe_dget2 hu (pv 4) (pv 5) pe_int ⟨rfl, rfl, rfl, rfl⟩) (nomark _))
      (pss_cons (ps_dput hu (pv 2) (pv 5) pe_int rfl)
      (pss_one (ps_ret (pv 2))))
      pss_nil)))
      (pss_one (ps_ret pe_non))))))), ?_⟩
  refine ⟨_, rfl, _, rfl, .ref a, .ref b, c, d, ps, rs, rfl, R1, R2, l1, l2, fun H1 t qs s1 ht t1 pw ndq mq lq => ?_⟩
  refine ⟨_, rfl, a, _, 0, .int c, rfl, rfl, SqT.of (s1 _ _ ha), atI_nat (j := 0) rfl, _, rfl, b, _, 0, .int d, rfl, rfl, SqT.of (s1 _ _ hb), atI_nat (j := 0) rfl, rfl, _, rfl, ite2 (fun h => ?_) (fun h => ?_)⟩
  · have hcd : c ≠ d := fun z => by subst z; simp at h
    exact ⟨_, rfl, qz hcd H1 t (nil0 qs) s1 ht t1 (by rw [nil0_len]; omega) (tm_nil0 qs)⟩
  have hcd : c = d := by
    by_cases z : c = d
    · exact z
    · exact absurd (by simp [z]) h
  refine ⟨_, rfl, a, _, 1, .ref a1, rfl, rfl, SqT.of (s1 _ _ ha), atI_nat (j := 1) rfl, a1, zs, rfl, by rw [s1 _ _ ha1, ez], fun p hp => s1 _ _ (hz p hp), ndz, fun o ho => ?_⟩
  rw [ezd]
  have s2 := same_new ho (.dK (dk ps))
  have o2 : upd H1 o (.dK (dk ps)) o = some (.dK (dk ps)) := upd_same
  have s12 : Same H (upd H1 o (.dK (dk ps))) := s1.trans s2
  have t2 := s2 _ _ t1
  generalize upd H1 o (.dK (dk ps)) = H2 at s2 o2 s12 t2 ⊢
  refine ⟨_, rfl, b, _, 1, .ref b1, rfl, rfl, SqT.of (s12 _ _ hb), atI_nat (j := 1) rfl, b1, ys, rfl, by rw [s12 _ _ hb1, ey], fun p hp => s12 _ _ (hy p hp), ndy, fun e he => ?_⟩
  rw [eyd]
  have s3 := same_new he (.dK (dk rs))
  have e3 : upd H2 e (.dK (dk rs)) e = some (.dK (dk rs)) := upd_same
  have s13 : Same H (upd H2 e (.dK (dk rs))) := s12.trans s3
  have t3 := s3 _ _ t2
  have o3 := s3 _ _ o2
  generalize upd H2 e (.dK (dk rs)) = H3 at s3 e3 s13 t3 o3 ⊢
  refine ⟨_, rfl, t, _, rfl, t3, fun l hl => ?_⟩
  have ek : (dk (nil0 qs)).map (fun p => kV p.1) = qs.map V.str := by
    unfold dk nil0
    rw [List.map_map, List.map_map]; rfl
  rw [ek]
  have s4 := same_new hl (.lst (qs.map V.str))
  have h4 : upd H3 l (.lst (qs.map V.str)) l = some (.lst (qs.map V.str)) := upd_same
  have s14 : Same H (upd H3 l (.lst (qs.map V.str))) := s13.trans s4
  have t4 := s4 _ _ t3
  have o4 := s4 _ _ o3
  have e4 := s4 _ _ e3
  generalize upd H3 l (.lst (qs.map V.str)) = H4 at s4 h4 s14 t4 o4 e4 ⊢
  refine ⟨l, rfl, ⟨_, SqL.of h4⟩, for_list (xs := qs.map V.str) (fun i σ H' => ∃ (o1 : Option V), σ = [some (.ref a), some (.ref b), some (.ref t), some (.ref o), some (.ref e), o1] ∧ H' = H4 ∧ ∀ x ∈ qs.take i, tm ps x = tm rs x)
    ⟨_, rfl, rfl, by simp⟩ (fun i σ H' _ ⟨_, _, z, _⟩ => by rw [z]; exact SqL.of h4) ?T1 ?_⟩
  case T1 =>
    rintro i x σ H5 hx ⟨o1, rfl, rfl, hno⟩
    rw [List.getElem?_map] at hx
    obtain ⟨y, hy', rfl⟩ := Option.map_eq_some_iff.mp hx
    refine ⟨_, rfl, o, rfl, .inl ⟨_, .inl o4⟩, _, rfl, _, DGet.k (k := Sum.inr y) o4, _, rfl, e, rfl, .inl ⟨_, .inl e4⟩, _, rfl, _, DGet.k (k := Sum.inr y) e4, ?_⟩
    rw [dk_tm, dk_tm]
    refine ⟨rfl, _, rfl, ite2 (fun hg => ?_) (fun hg => ?_)⟩
    · have hg' : tm ps y ≠ tm rs y := fun z => by rw [z] at hg; simp at hg
      refine ⟨_, rfl, _, rfl, t, _, rfl, DPut.k (k := Sum.inr y) t4 ?_, ?_⟩
      · rw [show (dk (nil0 qs)).length = qs.length by unfold dk nil0; rw [List.length_map, List.length_map], sizeLine_eq]; omega
      refine ⟨_, rfl, qy hcd y hg' _ t (putS (nil0 qs) y 1) (fun g ob hg2 => by rw [upd_ne (ne_of_none hg2 ht)]; exact s14 _ _ hg2) ht (by rw [upd_same, dk_put]) (Nat.le_trans (putS_len _ _ _) (by rw [nil0_len]; omega)) fun y => by rw [tm_put, tm_nil0]⟩
    · have hg' : tm ps y = tm rs y := by
        by_cases z : tm ps y = tm rs y
        · exact z
        · exact absurd (by simp [z]) hg
      refine ⟨_, rfl, rfl, fun r hr' => ?_⟩
      rw [List.take_add_one, hy'] at hr'
      rcases List.mem_append.mp hr' with h2 | h2
      · exact hno r h2
      · have e2 : r = y := by simpa using h2
        subst e2; exact hg'
  rintro σ H5 ⟨o1, rfl, rfl, hno⟩
  rw [List.length_map, List.take_length] at hno
  refine qn hcd (fun x => ?_) _ s14
  by_cases hx : x ∈ qs
  · exact hno x hx
  · rw [mq] at hx
    rw [List.mem_append, not_or] at hx
    rw [tm_none fun p hp z => hx.1 (List.mem_map.mpr ⟨p, hp, z⟩), tm_none fun p hp z => hx.2 (List.mem_map.mpr ⟨p, hp, z⟩)]
end
end K07

namespace K07
open PySem
/-! ### worths, and lengths put in -/
def W (num : Str → Int) : List Pr → Int
  | [] => 0
  | p :: ps => p.2 * num p.1 + W num ps
theorem W_sum (num : Str → Int) (ps : List Pr) : (ps.map fun p => p.2 * num p.1).sum = W num ps := by
  induction ps with
  | nil => rfl
  | cons p ps ih => rw [List.map_cons, List.sum_cons, ih]; rfl
theorem W_scale (num : Str → Int) (n : Int) (ps : List Pr) : W num (ps.map fun p => (p.1, p.2 * n)) = n * W num ps := by
  induction ps with
  | nil => show (0 : Int) = n * 0; rw [Int.mul_zero]
  | cons p ps ih =>
    show p.2 * n * num p.1 + W num (ps.map fun p => (p.1, p.2 * n)) = n * (p.2 * num p.1 + W num ps)
    rw [ih, Int.mul_add, ← Int.mul_assoc, Int.mul_comm n p.2]
/-- over any names that hold them all -/
def WU (num f : Str → Int) : List Str → Int
  | [] => 0
  | x :: xs => f x * num x + WU num f xs
theorem WU_congr {num f g : Str → Int} : ∀ {U : List Str}, (∀ x ∈ U, f x = g x) → WU num f U = WU num g U
  | [], _ => rfl
  | x :: U, h => by
    show f x * num x + WU num f U = g x * num x + WU num g U
    rw [h x List.mem_cons_self, WU_congr fun y hy => h y (List.mem_cons_of_mem _ hy)]
theorem WU_add (num f g : Str → Int) (U : List Str) : WU num (fun x => f x + g x) U = WU num f U + WU num g U := by
  induction U with
  | nil => rfl
  | cons x U ih =>
    show (f x + g x) * num x + WU num (fun x => f x + g x) U = f x * num x + WU num f U + (g x * num x + WU num g U)
    rw [ih, Int.add_mul]; omega
theorem WU_zero (num : Str → Int) (U : List Str) : WU num (fun _ => 0) U = 0 := by
  induction U with
  | nil => rfl
  | cons x U ih => show 0 * num x + WU num (fun _ => 0) U = 0; rw [ih, Int.zero_mul]; rfl
theorem WU_one (num : Str → Int) (y : Str) (n : Int) : ∀ {U : List Str}, U.Nodup → y ∈ U → WU num (fun x => if y = x then n else 0) U = n * num y
  | [], _, h => nomatch h
  | x :: U, nd, h => by
    rw [List.nodup_cons] at nd
    show (if y = x then n else 0) * num x + WU num (fun x => if y = x then n else 0) U = n * num y
    by_cases e : y = x
    · subst e
      have z : WU num (fun x => if y = x then n else 0) U = WU num (fun _ => 0) U := WU_congr fun x hx => if_neg fun e : y = x => nd.1 (by rw [e]; exact hx)
      rw [if_pos rfl, z, WU_zero]; omega
    · rw [if_neg e, WU_one num y n nd.2 ((List.mem_cons.mp h).resolve_left e)]
      omega
theorem W_cover (num : Str → Int) {U : List Str} (nd : U.Nodup) : ∀ {ps : List Pr}, (ps.map (·.1)).Nodup → (∀ p ∈ ps, p.1 ∈ U) → W num ps = WU num (tm ps) U
  | [], _, _ => by
    have : WU num (tm []) U = WU num (fun _ => 0) U := WU_congr fun x _ => rfl
    rw [this, WU_zero]; rfl
  | p :: ps, ndp, h => by
    rw [List.map_cons, List.nodup_cons] at ndp
    have e : WU num (tm (p :: ps)) U = WU num (fun x => (if p.1 = x then p.2 else 0) + tm ps x) U := WU_congr fun x _ => by
      show (if p.1 = x then p.2 else tm ps x) = (if p.1 = x then p.2 else 0) + tm ps x
      by_cases hx : p.1 = x
      · rw [if_pos hx, if_pos hx, tm_none (x := x) fun q hq e => ndp.1 (hx ▸ e ▸ List.mem_map_of_mem hq)]; omega
      · rw [if_neg hx, if_neg hx]; omega
    rw [e, WU_add, WU_one num p.1 p.2 nd (h p List.mem_cons_self), ← W_cover num nd ndp.2 fun q hq => h q (List.mem_cons_of_mem _ hq)]
    rfl
theorem W_add (num : Str → Int) {qs ps rs : List Pr} (Cq : Canon qs) (Cp : Canon ps) (Cr : Canon rs) (h : ∀ x, tm qs x = tm ps x + tm rs x) : W num qs = W num ps + W num rs := by
  have nq := names_nodup Cq.pw
  have inq : ∀ x, 1 ≤ tm qs x → x ∈ qs.map (·.1) := fun x hx => by
    obtain ⟨p, hp, e⟩ := tm_there (ps := qs) (x := x) (by omega)
    exact List.mem_map.mpr ⟨p, hp, e⟩
  have np : ∀ x, 0 ≤ tm ps x := tm_nonneg fun p hp => by have := Cp.ge p hp; omega
  have nr : ∀ x, 0 ≤ tm rs x := tm_nonneg fun p hp => by have := Cr.ge p hp; omega
  have mp : ∀ p ∈ ps, p.1 ∈ qs.map (·.1) := fun p hp => inq _ (by
    have := Cp.ge p hp
    rw [h, tm_mem (names_nodup Cp.pw) hp]
    have := nr p.1
    omega)
  have mr : ∀ p ∈ rs, p.1 ∈ qs.map (·.1) := fun p hp => inq _ (by
    have := Cr.ge p hp
    rw [h, tm_mem (names_nodup Cr.pw) hp]
    have := np p.1
    omega)
  rw [W_cover num nq nq (fun p hp => List.mem_map_of_mem hp), W_cover num nq (names_nodup Cp.pw) mp, W_cover num nq (names_nodup Cr.pw) mr, ← WU_add]
  exact WU_congr fun x _ => h x
theorem W_bound {num : Str → Int} {B : Int} (hB : 0 ≤ B) (h0 : ∀ x, 0 ≤ num x ∧ num x ≤ 60) : ∀ {ps : List Pr}, (∀ p ∈ ps, 0 ≤ p.2 ∧ p.2 ≤ B) → 0 ≤ W num ps ∧ W num ps ≤ ps.length * (B * 60)
  | [], _ => ⟨Int.le_refl 0, by show (0 : Int) ≤ 0 * (B * 60); omega⟩
  | p :: ps, h => by
    obtain ⟨i0, i1⟩ := W_bound hB h0 fun q hq => h q (List.mem_cons_of_mem _ hq)
    obtain ⟨p0, p1⟩ := h p List.mem_cons_self
    obtain ⟨n0, n1⟩ := h0 p.1
    have m0 : 0 ≤ p.2 * num p.1 := Int.mul_nonneg p0 n0
    have m1 : p.2 * num p.1 ≤ B * 60 := Int.mul_le_mul p1 n1 n0 hB
    refine ⟨by show 0 ≤ p.2 * num p.1 + W num ps; omega, ?_⟩
    show p.2 * num p.1 + W num ps ≤ ((ps.length + 1 : Nat) : Int) * (B * 60)
    rw [Int.natCast_add, Int.add_mul]
    omega
/-! ### places -/
structure Pl where
  c : Int
  ps : List Pr
abbrev Pls := Str → Pl
def csum (pl : Pls) : List Pr → Int
  | [] => 0
  | p :: ps => p.2 * (pl p.1).c + csum pl ps
def tsum (pl : Pls) : List Pr → Str → Int
  | [], _ => 0
  | p :: ps, x => p.2 * tm (pl p.1).ps x + tsum pl ps x
def wsum (pl : Pls) (num : Str → Int) : List Pr → Int
  | [] => 0
  | p :: ps => p.2 * W num (pl p.1).ps + wsum pl num ps
theorem csum_snoc (pl : Pls) (ps : List Pr) (p : Pr) : csum pl (ps ++ [p]) = csum pl ps + p.2 * (pl p.1).c := by
  induction ps with
  | nil => show p.2 * (pl p.1).c + 0 = 0 + p.2 * (pl p.1).c; omega
  | cons q ps ih => show q.2 * (pl q.1).c + csum pl (ps ++ [p]) = q.2 * (pl q.1).c + csum pl ps + p.2 * (pl p.1).c; rw [ih]; omega
theorem tsum_snoc (pl : Pls) (ps : List Pr) (p : Pr) (x : Str) : tsum pl (ps ++ [p]) x = tsum pl ps x + p.2 * tm (pl p.1).ps x := by
  induction ps with
  | nil => show p.2 * tm (pl p.1).ps x + 0 = 0 + p.2 * tm (pl p.1).ps x; omega
  | cons q ps ih => show q.2 * tm (pl q.1).ps x + tsum pl (ps ++ [p]) x = q.2 * tm (pl q.1).ps x + tsum pl ps x + p.2 * tm (pl p.1).ps x; rw [ih]; omega
theorem wsum_snoc (pl : Pls) (num : Str → Int) (ps : List Pr) (p : Pr) : wsum pl num (ps ++ [p]) = wsum pl num ps + p.2 * W num (pl p.1).ps := by
  induction ps with
  | nil => show p.2 * W num (pl p.1).ps + 0 = 0 + p.2 * W num (pl p.1).ps; omega
  | cons q ps ih => show q.2 * W num (pl q.1).ps + wsum pl num (ps ++ [p]) = q.2 * W num (pl q.1).ps + wsum pl num ps + p.2 * W num (pl p.1).ps; rw [ih]; omega
/-- the worth by the worths of what is put -/
theorem W_known {pl : Pls} {num kn : Str → Int} (h : ∀ x, kn x = (pl x).c + W num (pl x).ps) : ∀ ps : List Pr, W kn ps = csum pl ps + wsum pl num ps
  | [] => rfl
  | p :: ps => by
    show p.2 * kn p.1 + W kn ps = p.2 * (pl p.1).c + csum pl ps + (p.2 * W num (pl p.1).ps + wsum pl num ps)
    rw [W_known h ps, h, Int.mul_add]; omega
def noPl : Pls := fun x => ⟨0, [(x, 1)]⟩
theorem csum_no : ∀ ps : List Pr, csum noPl ps = 0
  | [] => rfl
  | p :: ps => by show p.2 * 0 + csum noPl ps = 0; rw [csum_no ps]; omega
theorem tsum_no : ∀ {ps : List Pr}, (ps.map (·.1)).Nodup → ∀ x, tsum noPl ps x = tm ps x
  | [], _, _ => rfl
  | p :: ps, nd, x => by
    rw [List.map_cons, List.nodup_cons] at nd
    show p.2 * (if p.1 = x then 1 else 0) + tsum noPl ps x = if p.1 = x then p.2 else tm ps x
    rw [tsum_no nd.2 x]
    by_cases h : p.1 = x
    · rw [if_pos h, if_pos h, tm_none (x := x) fun q hq e => nd.1 (h ▸ e ▸ List.mem_map_of_mem hq)]; omega
    · rw [if_neg h, if_neg h]; omega
end K07

set_option maxHeartbeats 1000000
namespace K07
open PySem L2
abbrev s_worth : Stmt := top 1
abbrev s_lworth : Stmt := top 14
def spWorth : Sp := fun vs H Q _ => ∃ (v : V) (d : Addr) (c : Int) (ps nums : List Pr), vs = [v, .ref d] ∧ Rep H (lenDv c ps) v ∧ ps.length ≤ 40 ∧ H d = some (.dK (dk nums)) ∧ (∀ p ∈ ps, IntMulOk p.2 (tm nums p.1)) ∧ ∀ H', Same H H' → Q (.int (c + W (tm nums) ps)) H'
section
variable {P : Program} {w : World} {K : PySem.W.Frag} {mg : Str → Option Value} {base : Heap}
theorem sc_worth : FnScope ["a", "numbers"] ["a", "numbers"] (defScope s_worth) := ⟨rfl, rfl, rfl, by decide +kernel, rfl, by decide +kernel, by decide +kernel⟩
theorem ok_worth {f : Addr} {fd : FuncData} (F : Fun K "worth" "worth" s_worth f fd) (T : Txt K mg) : FnOk P w K mg base CX0 1 f fd ["a", "numbers"] spWorth := by
  refine F.ok sc_worth (fun vs H Q E h => ?_) (fun cdv A outer s H vs Q E hr h => ?_)
  · obtain ⟨v, d, c, ps, nums, rfl, _⟩ := h
    rfl
  obtain ⟨v, d, c, ps, nums, rfl, R, l40, hd, hm, q⟩ := h
  have hu := hu_of hr
  obtain ⟨a, a1, us, rfl, ha, ha1, ru, lu⟩ := len_inv R
  refine ⟨_, (pss_one (ps_ret (pe_op op_add (pe_ix ix_tup (pv 0) pe_int (fun _ _ => rfl)) (pe_callB (call_sumL rfl) rfl T.sum (by decide +kernel) (pa_cons (pe_lc (own := ["name", "times"]) (ix := [1]) (pi_tup (pe_ix ix_tup (pv 0) pe_int (fun _ _ => rfl))) (.of rfl) rfl (fun _ _ _ => pg_tup rfl (pgs_cons (pg_name (i := 0) (lc_nd (l := ["name", "times", "numbers"]) ((by decide +kernel)) rfl) rfl (Or.inl rfl)) (pgs_cons (pg_name (i := 1) (lc_nd (l := ["name", "times", "numbers"]) ((by decide +kernel)) rfl) rfl (Or.inl rfl)) pgs_nil))) (gw_two (by decide) (by decide)) (fun _ _ _ => pif_nil) (fun _ _ _ => (pe_op op_mulK (pv 1) (pe_dget2 hu (pv 2) (pv 0) pe_int ⟨rfl, rfl, rfl, rfl⟩)))) pa_nil))))), ?_⟩
  refine ⟨_, rfl, a, _, 0, .int c, rfl, rfl, SqT.of ha, atI_nat (j := 0) rfl, _, rfl, a, _, 1, .ref a1, rfl, rfl, SqT.of ha, atI_nat (j := 1) rfl, a1, rfl, ⟨us, SqT.of ha1⟩, ?_⟩
  refine lc_tup (xs := us) (fun i ys H' => H' = H ∧ ys = ((ps.take i).map fun p => p.2 * tm nums p.1).map V.int) ⟨rfl, rfl⟩ (fun i ys H' _ p => by rw [p.1]; exact SqT.of ha1) ?_ ?_
  · rintro i ys H1 x hx ⟨rfl, rfl⟩
    obtain ⟨p, b, hp, rfl, hb⟩ := part_at ru hx
    have hi : i < us.length := (List.getElem?_eq_some_iff.mp hx).1
    refine turn_two hb ⟨_, rfl, _, rfl, d, rfl, .inl ⟨_, .inl hd⟩, _, rfl, _, DGet.k (k := Sum.inr p.1) hd, p.2, tm nums p.1, rfl, dk_tm _ _, hm p (List.mem_of_getElem? hp), ?_, rfl, ?_⟩
    · simp only [List.length_map, List.length_take, sizeLine_eq]; omega
    · rw [List.take_add_one, hp, List.map_append, List.map_append]; rfl
  · rintro ys H1 ⟨rfl, rfl⟩ l hl
    rw [lu, List.take_length]
    refine ⟨l, _, rfl, SqL.of upd_same, _, _, rfl, rfl, ?_⟩
    rw [W_sum]
    exact q _ (same_new hl _)
theorem sc_lworth : FnScope ["_law_a", "_law_numbers"] ["_law_a", "_law_numbers"] (defScope s_lworth) := ⟨rfl, rfl, rfl, by decide +kernel, rfl, by decide +kernel, by decide +kernel⟩
theorem ok_lworth {f : Addr} {fd : FuncData} (F : Fun K "_law_worth" "_law_worth" s_lworth f fd) (T : Txt K mg) : FnOk P w K mg base CX0 1 f fd ["_law_a", "_law_numbers"] spWorth := by
  refine F.ok sc_lworth (fun vs H Q E h => ?_) (fun cdv A outer s H vs Q E hr h => ?_)
  · obtain ⟨v, d, c, ps, nums, rfl, _⟩ := h
    rfl
  obtain ⟨v, d, c, ps, nums, rfl, R, l40, hd, hm, q⟩ := h
  have hu := hu_of hr
  obtain ⟨a, a1, us, rfl, ha, ha1, ru, lu⟩ := len_inv R
  refine ⟨_, (pss_one (ps_ret (pe_op op_add (pe_ix ix_tup (pv 0) pe_int (fun _ _ => rfl)) (pe_callB (call_sumL rfl) rfl T.sum (by decide +kernel) (pa_cons (pe_lc (own := ["_law_name", "_law_times"]) (ix := [1]) (pi_tup (pe_ix ix_tup (pv 0) pe_int (fun _ _ => rfl))) (.of rfl) rfl (fun _ _ _ => pg_tup rfl (pgs_cons (pg_name (i := 0) (lc_nd (l := ["_law_name", "_law_times", "_law_numbers"]) ((by decide +kernel)) rfl) rfl (Or.inl rfl)) (pgs_cons (pg_name (i := 1) (lc_nd (l := ["_law_name", "_law_times", "_law_numbers"]) ((by decide +kernel)) rfl) rfl (Or.inl rfl)) pgs_nil))) (gw_two (by decide) (by decide)) (fun _ _ _ => pif_nil) (fun _ _ _ => (pe_op op_mulK (pv 1) (pe_dget2 hu (pv 2) (pv 0) pe_int ⟨rfl, rfl, rfl, rfl⟩)))) pa_nil))))), ?_⟩
  refine ⟨_, rfl, a, _, 0, .int c, rfl, rfl, SqT.of ha, atI_nat (j := 0) rfl, _, rfl, a, _, 1, .ref a1, rfl, rfl, SqT.of ha, atI_nat (j := 1) rfl, a1, rfl, ⟨us, SqT.of ha1⟩, ?_⟩
  refine lc_tup (xs := us) (fun i ys H' => H' = H ∧ ys = ((ps.take i).map fun p => p.2 * tm nums p.1).map V.int) ⟨rfl, rfl⟩ (fun i ys H' _ p => by rw [p.1]; exact SqT.of ha1) ?_ ?_
  · rintro i ys H1 x hx ⟨rfl, rfl⟩
    obtain ⟨p, b, hp, rfl, hb⟩ := part_at ru hx
    have hi : i < us.length := (List.getElem?_eq_some_iff.mp hx).1
    refine turn_two hb ⟨_, rfl, _, rfl, d, rfl, .inl ⟨_, .inl hd⟩, _, rfl, _, DGet.k (k := Sum.inr p.1) hd, p.2, tm nums p.1, rfl, dk_tm _ _, hm p (List.mem_of_getElem? hp), ?_, rfl, ?_⟩
    · simp only [List.length_map, List.length_take, sizeLine_eq]; omega
    · rw [List.take_add_one, hp, List.map_append, List.map_append]; rfl
  · rintro ys H1 ⟨rfl, rfl⟩ l hl
    rw [lu, List.take_length]
    refine ⟨l, _, rfl, SqL.of upd_same, _, _, rfl, rfl, ?_⟩
    rw [W_sum]
    exact q _ (same_new hl _)
end
end K07

set_option maxHeartbeats 1000000
namespace K07
open PySem L2
abbrev s_far : Stmt := top 15
abbrev s_near : Stmt := top 16
/-- dicts that stand in a list -/
abbrev Zs := List (Addr × List Pr)
def spFar : Sp := fun vs H Q _ => ∃ (v u : V) (c d : Int) (ps rs : List Pr), vs = [v, u] ∧ Rep H (lenDv c ps) v ∧ Rep H (lenDv d rs) u ∧ ps.length ≤ 20 ∧ rs.length ≤ 20 ∧
  ∀ (H' : Hp) (l : Addr) (zs : Zs) (qs : List Str), Same H H' → H' l = some (.lst (zs.map fun z => V.ref z.1)) → (∀ z ∈ zs, H' z.1 = some (.dK (dk z.2))) → zs.map (·.2) = [] :: qs.map (fun x => [(x, c + d + 1)]) → (∀ x, x ∈ qs ↔ x ∈ ps.map (·.1) ++ rs.map (·.1)) → qs.length ≤ 40 → Q (.ref l) H'
def spNear : Sp := fun vs H Q _ => ∃ (v u : V) (k c d : Int) (ps rs : List Pr), vs = [v, u, .int k] ∧ Rep H (lenDv c ps) v ∧ Rep H (lenDv d rs) u ∧ ps.length ≤ 20 ∧ rs.length ≤ 20 ∧
  ∀ (H' : Hp) (l : Addr) (zs : Zs), Same H H' → H' l = some (.lst (zs.map fun z => V.ref z.1)) → (∀ z ∈ zs, H' z.1 = some (.dK (dk z.2))) → zs.length ≤ 4 → (∀ z ∈ zs, ∀ x, 0 ≤ tm z.2 x ∧ tm z.2 x ≤ 60) → Q (.ref l) H'
theorem same_two {H : Hp} {p : Addr} (hp : H p = none) (a b : HO) : Same H (upd (upd H p a) p b) := fun g o e => by rw [upd_ne (ne_of_none e hp), upd_ne (ne_of_none e hp)]; exact e
section
variable {P : Program} {w : World} {K : PySem.W.Frag} {mg : Str → Option Value} {base : Heap}
/-- both parts behind one another -/
theorem cat_parts {H : Hp} {a1 b1 : Addr} {us ws : List V} {ps rs : List Pr} {Q : VK} (ha1 : H a1 = some (.tup us)) (hb1 : H b1 = some (.tup ws)) (ru : Reps H (partsDv ps) us) (rw' : Reps H (partsDv rs) ws) (l1 : ps.length ≤ 20) (l2 : rs.length ≤ 20)
    (fin : ∀ (H1 : Hp) (x : Addr) (xs : List V), Same H H1 → H1 x = some (.tup xs) → Reps H1 (partsDv (ps ++ rs)) xs → xs.length = (ps ++ rs).length → Q (.ref x) H1) : rCatA K (.ref a1) (.ref b1) H Q := by
  have lu : us.length = ps.length := by have := ru.length; rwa [List.length_map] at this
  have lw : ws.length = rs.length := by have := rw'.length; rwa [List.length_map] at this
  refine ⟨a1, b1, us, ws, rfl, rfl, SqT.of ha1, SqT.of hb1, by rw [lu, lw, sizeLine_eq]; omega, fun e => ?_, fun e => ?_, fun p hp => ?_⟩
  · have e1 : ps = [] := List.eq_nil_of_length_eq_zero (by rw [← lu, e]; rfl)
    subst e1
    exact fin H b1 ws (Same.refl _) hb1 rw' lw
  · have e1 : rs = [] := List.eq_nil_of_length_eq_zero (by rw [← lw, e]; rfl)
    subst e1
    exact fin H a1 us (Same.refl _) ha1 (by rw [List.append_nil]; exact ru) (by rw [List.append_nil]; exact lu)
  · have s1 : Same H (upd H p (.tup (us ++ ws))) := same_new hp _
    have e : partsDv (ps ++ rs) = partsDv ps ++ partsDv rs := List.map_append
    exact fin _ p (us ++ ws) s1 upd_same (by rw [e]; exact Reps.append (ru.mono s1) (rw'.mono s1)) (by rw [List.length_append, List.length_append, lu, lw])
theorem sc_far : FnScope ["_law_a", "_law_b", "_law_names_here", "_law_great"] ["_law_a", "_law_b"] (defScope s_far) := ⟨rfl, rfl, rfl, by decide +kernel, rfl, by decide +kernel, by decide +kernel⟩
theorem ok_far {f : Addr} {fd : FuncData} (F : Fun K "_law_far" "_law_far" s_far f fd) (T : Txt K mg) : FnOk P w K mg base CX0 1 f fd ["_law_a", "_law_b"] spFar := by
  have nd : (["_law_a", "_law_b", "_law_names_here", "_law_great"] : List Str).Nodup := sc_far.nd
  refine F.ok sc_far (fun vs H Q E h => ?_) (fun cdv A outer s H vs Q E hr h => ?_)
  · obtain ⟨v, u, c, d, ps, rs, rfl, _⟩ := h
    rfl
  obtain ⟨v, u, c, d, ps, rs, rfl, R1, R2, l1, l2, q⟩ := h
  have hu := hu_of hr
  obtain ⟨a, a1, us, rfl, ha, ha1, ru, lu⟩ := len_inv R1
  obtain ⟨b, b1, ws, rfl, hb, hb1, rw', lw⟩ := len_inv R2
  refine ⟨_, (pss_cons (ps_set (i := 2) nd rfl (Or.inl rfl) (pe_callB (call_sortedS rfl) rfl T.sorted (by decide +kernel) (pa_cons (pe_callTy (call_setS rfl) rfl T.set (by decide +kernel) (pa_cons (pe_lc (own := ["_law_name", "_law_many"]) (ix := []) (pi_tup (pe_op op_catA (pe_ix ix_tup (pv 0) pe_int (fun _ _ => rfl)) (pe_ix ix_tup (pv 1) pe_int (fun _ _ => rfl)))) (.of rfl) rfl (fun _ _ _ => pg_tup rfl (pgs_cons (pg_name (i := 0) (lc_nd (l := ["_law_name", "_law_many"]) ((by decide +kernel)) rfl) rfl (Or.inl rfl)) (pgs_cons (pg_name (i := 1) (lc_nd (l := ["_law_name", "_law_many"]) ((by decide +kernel)) rfl) rfl (Or.inl rfl)) pgs_nil))) (gw_two (by decide) (by decide)) (fun _ _ _ => pif_nil) (fun _ _ _ => (pv 0))) pa_nil)) pa_nil)))
      (pss_cons (ps_set (i := 3) nd rfl (Or.inr rfl) (pe_op op_add (pe_op op_add (pe_ix ix_tup (pv 0) pe_int (fun _ _ => rfl)) (pe_ix ix_tup (pv 1) pe_int (fun _ _ => rfl))) pe_int))
      (pss_one (ps_ret (pe_op op_catQ (pe_lst (pa_cons pe_dnewK pa_nil)) (pe_lc (own := ["_law_name"]) (ix := [3]) (pi_list (pv 2)) (.of rfl) rfl (fun _ _ _ => pg_name (i := 0) (lc_nd (l := ["_law_name", "_law_great"]) ((by decide +kernel)) rfl) rfl (Or.inl rfl)) (gw_name (by decide)) (fun _ _ _ => pif_nil) (fun _ _ _ => (pe_disp (pps_cons (pv 0) (pv 1) pps_nil) rfl rfl (by simp) (Nat.le_of_ble_eq_true rfl))))))))), ?_⟩
  refine ⟨_, rfl, a, _, 1, .ref a1, rfl, rfl, SqT.of ha, atI_nat (j := 1) rfl, _, rfl, b, _, 1, .ref b1, rfl, rfl, SqT.of hb, atI_nat (j := 1) rfl, ?_⟩
  refine cat_parts ha1 hb1 ru rw' l1 l2 fun H1 x xs s1 hx rx lx => ?_
  have ly : (ps.map (·.1) ++ rs.map (·.1)).length ≤ 40 := by simp only [List.length_append, List.length_map]; omega
  have lx40 : xs.length ≤ 40 := by rw [lx, List.length_append]; omega
  refine ⟨x, rfl, ⟨xs, SqT.of hx⟩, lc_tup (xs := xs) (fun i ys H' => H' = H1 ∧ ys = ((ps ++ rs).take i).map fun p => V.str p.1) ⟨rfl, rfl⟩ (fun i ys H' _ p => by rw [p.1]; exact SqT.of hx) ?_ ?_⟩
  · rintro i ys H' y hy ⟨rfl, rfl⟩
    obtain ⟨p, e, hp, rfl, he⟩ := part_at rx hy
    refine turn_two he ⟨_, rfl, ?_, rfl, ?_⟩
    · rw [List.length_map, List.length_take, sizeLine_eq]; omega
    · rw [List.take_add_one, hp, List.map_append]; rfl
  rintro ys H' ⟨rfl, rfl⟩ l3 hl3
  rw [lx, List.take_length]
  have e3 : ((ps ++ rs).map fun p => V.str p.1) = (ps.map (·.1) ++ rs.map (·.1)).map V.str := by simp [List.map_append, List.map_map, Function.comp_def]
  rw [e3]
  have s3 := same_new hl3 (.lst ((ps.map (·.1) ++ rs.map (·.1)).map V.str))
  have h3 : upd H' l3 (.lst ((ps.map (·.1) ++ rs.map (·.1)).map V.str)) l3 = _ := upd_same
  have s03 := s1.trans s3
  generalize upd H' l3 (.lst ((ps.map (·.1) ++ rs.map (·.1)).map V.str)) = H3 at s3 h3 s03 ⊢
  refine ⟨l3, ps.map (·.1) ++ rs.map (·.1), rfl, SqL.of h3, by omega, fun S zs hS ndz mz lz => ?_⟩
  refine ⟨S, zs, rfl, upd_same, ndz, by omega, fun l qs hl pq pw => ?_⟩
  have lq : qs.length ≤ 40 := by rw [pq.length_eq]; omega
  generalize e5 : upd _ _ _ = H5
  have s05 : Same H H5 := by rw [← e5]; exact s03.trans ((same_new hS _).trans (same_new hl _))
  have h5 : H5 l = some (.lst (qs.map V.str)) := by rw [← e5]; exact upd_same
  clear e5
  refine ⟨_, rfl, a, _, 0, .int c, rfl, rfl, SqT.of (s05 _ _ ha), atI_nat (j := 0) rfl, _, rfl, b, _, 0, .int d, rfl, rfl, SqT.of (s05 _ _ hb), atI_nat (j := 0) rfl, _, _, rfl, rfl, _, _, rfl, rfl, ?_⟩
  refine fun d0 hd0 => ⟨z1, fun l0 hl0 => ?_⟩
  have q2 := same_new hl0 (.lst [.ref d0])
  generalize e6 : upd _ _ _ = H6
  have h60 : H6 d0 = some (.dK []) := by rw [← e6]; exact q2 _ _ upd_same
  have h61 : H6 l0 = some (.lst [.ref d0]) := by rw [← e6]; exact upd_same
  have s6 : Same H5 H6 := by rw [← e6]; exact (same_new hd0 (.dK [])).trans q2
  clear e6
  refine ⟨_, rfl, l, rfl, ⟨_, SqL.of (s6 _ _ h5)⟩, lc_list (xs := qs.map V.str) (fun i ys H' => ∃ zs : Zs, ys = zs.map (fun z => V.ref z.1) ∧ zs.map (·.2) = (qs.take i).map (fun x => [(x, c + d + 1)]) ∧ Same H6 H' ∧ ∀ z ∈ zs, H' z.1 = some (.dK (dk z.2))) ⟨[], rfl, rfl, Same.refl _, by simp⟩ (fun i ys H' _ ⟨_, _, _, sx, _⟩ => SqL.of (sx _ _ (s6 _ _ h5))) ?_ ?_⟩
  · rintro i ys H7 y hy ⟨zs, rfl, ez, s7, hz⟩
    rw [List.getElem?_map] at hy
    obtain ⟨nm, hnm, rfl⟩ := Option.map_eq_some_iff.mp hy
    have hi : i < qs.length := (List.getElem?_eq_some_iff.mp hnm).1
    have lz7 : zs.length ≤ i := by have := congrArg List.length ez; rw [List.length_map, List.length_map, List.length_take] at this; omega
    refine turn_name fun p hp => ⟨_, rfl, _, rfl, upd_same, [(Sum.inr nm, .int (c + d + 1))], rfl, Nat.le_of_ble_eq_true rfl, ?_, zs ++ [(p, [(nm, c + d + 1)])], by rw [List.map_append]; rfl, ?_, s7.trans (same_two hp _ _), fun z hz' => ?_⟩
    · rw [List.length_map, sizeLine_eq]; omega
    · rw [List.map_append, ez, List.take_add_one, hnm, List.map_append]; rfl
    · rcases List.mem_append.mp hz' with h | h
      · exact same_two hp _ _ _ _ (hz z h)
      · rw [List.mem_singleton.mp h]; exact upd_same
  rintro ys H7 ⟨zs, rfl, ez, s7, hz⟩ l7 hl7
  rw [List.length_map, List.take_length] at ez
  have lz7 : zs.length ≤ 40 := by have := congrArg List.length ez; rw [List.length_map, List.length_map] at this; omega
  have s8 := same_new hl7 (.lst (zs.map fun z => V.ref z.1))
  refine ⟨l0, l7, _, _, rfl, rfl, SqL.of (s8 _ _ (s7 _ _ h61)), SqL.of upd_same, by rw [List.length_map, sizeLine_eq]; show 1 + _ ≤ _; omega, fun l9 hl9 => ?_⟩
  have s9 := same_new hl9 (.lst ([V.ref d0] ++ zs.map fun z => V.ref z.1))
  refine q _ l9 ((d0, []) :: zs) qs (s05.trans (s6.trans (s7.trans (s8.trans s9)))) upd_same (fun z hz' => ?_) (by rw [List.map_cons, ez]) (fun x => by rw [pq.mem_iff]; exact mz x) lq
  rcases List.mem_cons.mp hz' with rfl | h
  · exact s9 _ _ (s8 _ _ (s7 _ _ h60))
  · exact s9 _ _ (s8 _ _ (hz z h))
theorem sc_near : FnScope ["_law_a", "_law_b", "_law_k", "_law_found", "_law_turn", "_law_numbers", "_law_j", "_law_part"] ["_law_a", "_law_b", "_law_k"] (defScope s_near) := ⟨rfl, rfl, rfl, by decide +kernel, rfl, by decide +kernel, by decide +kernel⟩
theorem ok_near {f : Addr} {fd : FuncData} {k0 : Nat} (F : Fun K "_law_near" "_law_near" s_near f fd) (T : Txt K mg) (D_law_mixed : Def P w K mg base k0 "_law_mixed" ["_law_cell", "_law_k"] spMixed) : FnOk P w K mg base CX0 (k0 + 1) f fd ["_law_a", "_law_b", "_law_k"] spNear := by
  have nd : (["_law_a", "_law_b", "_law_k", "_law_found", "_law_turn", "_law_numbers", "_law_j", "_law_part"] : List Str).Nodup := sc_near.nd
  refine F.ok sc_near (fun vs H Q E h => ?_) (fun cdv A outer s H vs Q E hr h => ?_)
  · obtain ⟨v, u, k, c, d, ps, rs, rfl, _⟩ := h
    rfl
  obtain ⟨v, u, k, c, d, ps, rs, rfl, R1, R2, l1, l2, q⟩ := h
  have hu := hu_of hr
  obtain ⟨a, a1, us, rfl, ha, ha1, ru, lu⟩ := len_inv R1
  obtain ⟨b, b1, ws, rfl, hb, hb1, rw', lw⟩ := len_inv R2
  refine ⟨_, (pss_cons (ps_set (i := 3) nd rfl (Or.inl rfl) (pe_lst pa_nil))
      (pss_cons (ps_for PassesOwn.never rfl (pi_range1 rfl T.range (pa_cons pe_int pa_nil)) (pg_name (i := 4) nd rfl (Or.inl rfl))
      (pss_cons (ps_set (i := 5) nd rfl (Or.inl rfl) pe_dnewK)
      (pss_cons (ps_for PassesOwn.never rfl (pi_enumT rfl T.enumerate (pa_cons (pe_op op_catA (pe_ix ix_tup (pv 0) pe_int (fun _ _ => rfl)) (pe_ix ix_tup (pv 1) pe_int (fun _ _ => rfl))) pa_nil)) (pg_tup rfl (pgs_cons (pg_name (i := 6) nd rfl (Or.inl rfl)) (pgs_cons (pg_name (i := 7) nd rfl (Or.inl rfl)) pgs_nil)))
      (pss_one (ps_dput hu (pv 5) (pe_ix ix_tup (pv 7) pe_int (fun _ _ => rfl)) (pe_op op_mod (pe_def D_law_mixed hr rfl (pa_cons (pe_op op_add (pe_op op_mul pe_int (pv 2)) pe_int) (pa_cons (pe_op op_add (pe_op op_mul pe_int (pv 4)) (pv 6)) pa_nil))) pe_int) rfl)))
      (pss_one (ps_expr (pe_bm PySem.F.plainAttrs_list PySem.F.slot_list_append PySem.F.type_list_append mt_append (pv 3) (pa_cons (pv 5) pa_nil)))))))
      (pss_one (ps_ret (pv 3))))), ?_⟩
  refine ⟨Nat.zero_le _, fun l hl => ?_⟩
  have s0 : Same H (upd H l (.lst [])) := same_new hl _
  refine ⟨4, rfl, by decide, by decide, for_range (n := 4) (fun i σ H' => ∃ (o1 o2 o3 o4 : Option V) (zs : Zs), σ = [some (.ref a), some (.ref b), some (.int k), some (.ref l), o1, o2, o3, o4] ∧ (∀ g o, g ≠ l → H g = some o → H' g = some o) ∧ H' l = some (.lst (zs.map fun z => V.ref z.1)) ∧ zs.length ≤ i ∧ (∀ z ∈ zs, H' z.1 = some (.dK (dk z.2))) ∧ (∀ z ∈ zs, ∀ x, 0 ≤ tm z.2 x ∧ tm z.2 x ≤ 60))
    ⟨_, _, _, _, [], rfl, fun g o _ e => s0 g o e, upd_same, by simp, by simp, by simp⟩ ?T1 ?_⟩
  case T1 =>
    rintro i σ H1 hi ⟨o1, o2, o3, o4, zs, rfl, s1, hl1, lz, hz, bz⟩
    have s01 : Same H H1 := fun g o e => s1 g o (ne_of_none e hl) e
    refine fun t ht => ?_
    have s2 := same_new ht (.dK [])
    have t2 : upd H1 t (.dK []) t = some (.dK []) := upd_same
    have s02 := s01.trans s2
    generalize upd H1 t (.dK []) = H2 at s2 t2 s02 ⊢
    refine ⟨_, rfl, a, _, 1, .ref a1, rfl, rfl, SqT.of (s02 _ _ ha), atI_nat (j := 1) rfl, _, rfl, b, _, 1, .ref b1, rfl, rfl, SqT.of (s02 _ _ hb), atI_nat (j := 1) rfl, ?_⟩
    refine cat_parts (s02 _ _ ha1) (s02 _ _ hb1) (ru.mono s02) (rw'.mono s02) l1 l2 fun H3 x xs s3 hx rx lx => ?_
    have lx40 : xs.length ≤ 40 := by rw [lx, List.length_append]; omega
    have xt : x ≠ t := fun z => by rw [z, s3 _ _ t2] at hx; cases hx
    refine ⟨x, rfl, ⟨xs, SqT.of hx⟩, for_enumT (xs := xs) (fun j σ H' => ∃ (o3 o4 : Option V) (kvs : List Pr), σ = [some (.ref a), some (.ref b), some (.int k), some (.ref l), some (.int (0 + i)), some (.ref t), o3, o4] ∧ (∀ g o, g ≠ t → H3 g = some o → H' g = some o) ∧ H' t = some (.dK (dk kvs)) ∧ kvs.length ≤ j ∧ (∀ x, 0 ≤ tm kvs x ∧ tm kvs x ≤ 60))
      ⟨_, _, [], rfl, fun g o _ e => e, s3 _ _ t2, by simp, fun x => ⟨Int.le_refl 0, by show (0 : Int) ≤ 60; decide⟩⟩ (fun j σ H' _ ⟨_, _, _, _, sx, _⟩ => SqT.of (sx _ _ xt hx)) ?T2 ?_⟩
    case T2 =>
      rintro j y σ H4 g hy ⟨o3, o4, kvs, rfl, s4, t4, lk, bk⟩ hg
      obtain ⟨p, e, hp, rfl, he⟩ := part_at rx hy
      have hj : j < xs.length := (List.getElem?_eq_some_iff.mp hy).1
      have et : e ≠ t := fun z => by rw [z, s3 _ _ t2] at he; cases he
      have s5 := same_new hg (.tup [.int j, .ref e])
      refine ⟨g, _, rfl, SqT.of upd_same, rfl, _, _, rfl, _, _, rfl, rfl, ?_⟩
      refine ⟨_, rfl, _, _, rfl, rfl, .inl ⟨by decide, by decide⟩, _, _, rfl, rfl, _, rfl, _, _, rfl, rfl, .inl ⟨by decide, by decide⟩, _, rfl, _, _, rfl, rfl, _, _, rfl, fun m hm => ?_⟩
      refine ⟨_, _, rfl, rfl, (by show (0 : Int) < 61; decide), _, rfl, _, rfl, e, _, 0, .str p.1, rfl, rfl, SqT.of (s5 _ _ (s4 _ _ et he)), atI_nat (j := 0) rfl, t, _, rfl, DPut.k (k := Sum.inr p.1) (s5 _ _ t4) ?_, ?_⟩
      · rw [show (dk kvs).length = kvs.length from List.length_map _, sizeLine_eq]; omega
      refine ⟨_, _, putS kvs p.1 (m % 61), rfl, fun g' o hg' e' => ?_, ?_, Nat.le_trans (putS_len _ _ _) (by omega), fun y => ?_⟩
      · rw [upd_ne hg']; exact s5 _ _ (s4 _ _ hg' e')
      · rw [upd_same, dk_put]
      · rw [tm_put]
        have := mod_lt (a := m) 61 (by decide)
        split
        · omega
        · exact bk y
    rintro σ H4 ⟨o3, o4, kvs, rfl, s4, t4, lk, bk⟩
    have s14 : Same H1 H4 := fun g o e => s4 g o (ne_of_none e ht) (s3 _ _ (s2 _ _ e))
    refine ⟨_, rfl, .inl ⟨rfl, _, SqL.of (s14 _ _ hl1)⟩, _, rfl, l, _, _, rfl, rfl, s14 _ _ hl1, by rw [List.length_map, sizeLine_eq]; omega, ?_⟩
    have tl : t ≠ l := fun z => by rw [z, hl1] at ht; cases ht
    have zl : ∀ z ∈ zs, z.1 ≠ l := fun z hz' e => by have := hz z hz'; rw [e, hl1] at this; cases this
    refine ⟨_, _, _, _, zs ++ [(t, kvs)], rfl, fun g o hg e => ?_, ?_, by rw [List.length_append]; show zs.length + 1 ≤ _; omega, fun z hz' => ?_, fun z hz' x => ?_⟩
    · rw [upd_ne hg]; exact s14 _ _ (s1 g o hg e)
    · rw [upd_same, List.map_append]; rfl
    · rcases List.mem_append.mp hz' with h | h
      · rw [upd_ne (zl z h)]; exact s14 _ _ (hz z h)
      · rw [List.mem_singleton.mp h, upd_ne tl]; exact t4
    · rcases List.mem_append.mp hz' with h | h
      · exact bz z h x
      · rw [List.mem_singleton.mp h]; exact bk x
  rintro σ H1 ⟨o1, o2, o3, o4, zs, rfl, s1, hl1, lz, hz, bz⟩
  exact ⟨_, rfl, q H1 l zs (fun g o e => s1 g o (ne_of_none e hl) e) hl1 hz lz bz⟩
end
end K07

set_option maxHeartbeats 1000000
namespace K07
open PySem L2
abbrev s_right : Stmt := top 17
theorem W_if {num : Str → Int} {x : Str} {g : Int} (h : ∀ y, num y = if x = y then g else 0) : ∀ {ps : List Pr}, (ps.map (·.1)).Nodup → W num ps = tm ps x * g
  | [], _ => by show (0 : Int) = 0 * g; rw [Int.zero_mul]
  | p :: ps, nd => by
    rw [List.map_cons, List.nodup_cons] at nd
    have ih := W_if h nd.2
    show p.2 * num p.1 + W num ps = (if p.1 = x then p.2 else tm ps x) * g
    rw [ih, h p.1]
    by_cases e : p.1 = x
    · rw [if_pos e, if_pos e.symm, tm_none (x := x) fun q hq z => nd.1 (e ▸ z ▸ List.mem_map_of_mem hq)]; omega
    · rw [if_neg e, if_neg (Ne.symm e)]; omega
theorem W_nil {num : Str → Int} (h : ∀ y, num y = 0) (ps : List Pr) : W num ps = 0 := by
  induction ps with
  | nil => rfl
  | cons p ps ih => show p.2 * num p.1 + W num ps = 0; rw [ih, h]; omega
theorem WU_mono {num f g : Str → Int} (h0 : ∀ x, 0 ≤ num x) (h : ∀ x, f x ≤ g x) (U : List Str) : WU num f U ≤ WU num g U := by
  induction U with
  | nil => exact Int.le_refl _
  | cons x U ih =>
    show f x * num x + WU num f U ≤ g x * num x + WU num g U
    have := Int.mul_le_mul_of_nonneg_right (h x) (h0 x)
    omega
theorem exc_le {c d : Int} {ps rs : List Pr} (C1 : Canon ps) (C2 : Canon rs) (h : ¬ Exc c d ps rs) (x : Str) : tm ps x ≤ tm rs x := by
  by_cases e : ∃ p ∈ ps, p.1 = x
  · obtain ⟨p, hp, rfl⟩ := e
    rw [tm_mem (names_nodup C1.pw) hp]
    exact Int.not_lt.mp fun z => h (.inr ⟨p, hp, z⟩)
  · rw [tm_none fun p hp z => e ⟨p, hp, z⟩]
    exact tm_nonneg (fun r hr => Int.le_trans (by decide) (C2.ge r hr)) x
theorem W_le {c d : Int} {num : Str → Int} {ps rs : List Pr} (h0 : ∀ x, 0 ≤ num x) (C1 : Canon ps) (C2 : Canon rs) (h : ¬ Exc c d ps rs) : W num ps ≤ W num rs := by
  have le := exc_le C1 C2 h
  have n2 := names_nodup C2.pw
  have m1 : ∀ p ∈ ps, p.1 ∈ rs.map (·.1) := fun p hp => by
    have h1 := le p.1
    rw [tm_mem (names_nodup C1.pw) hp] at h1
    have := C1.ge p hp
    obtain ⟨r, hr, e⟩ := tm_there (ps := rs) (x := p.1) (by omega)
    exact List.mem_map.mpr ⟨r, hr, e⟩
  rw [W_cover num n2 (names_nodup C1.pw) m1, W_cover num n2 n2 fun p hp => List.mem_map_of_mem hp]
  exact WU_mono h0 le _
theorem one_if (x : Str) (g : Int) (y : Str) : tm [(x, g)] y = if x = y then g else 0 := rfl
abbrev fars (qs : List Str) (g : Int) : List (List Pr) := [] :: qs.map fun x => [(x, g)]
theorem same_iff {c d : Int} {ps rs : List Pr} {qs : List Str} (C1 : Canon ps) (C2 : Canon rs) (hc : 0 ≤ c) (hd : 0 ≤ d) (hq : ∀ x, x ∈ qs ↔ x ∈ ps.map (·.1) ++ rs.map (·.1)) :
    ((fars qs (c + d + 1)).map fun n => decide (V.int (c + W (tm n) ps) = V.int (d + W (tm n) rs))).all id = true ↔ (c = d ∧ ∀ x, tm ps x = tm rs x) := by
  rw [List.all_map, List.all_eq_true]
  constructor
  · intro h
    have h0 := eqI (h [] List.mem_cons_self)
    rw [W_nil (num := tm []) (fun _ => rfl), W_nil (num := tm []) (fun _ => rfl)] at h0
    refine ⟨by omega, fun x => ?_⟩
    by_cases hx : x ∈ qs
    · have h1 := eqI (h [(x, c + d + 1)] (List.mem_cons_of_mem _ (List.mem_map.mpr ⟨x, hx, rfl⟩)))
      rw [W_if (one_if x _) (names_nodup C1.pw), W_if (one_if x _) (names_nodup C2.pw)] at h1
      exact Int.eq_of_mul_eq_mul_right (a := c + d + 1) (by omega) (by omega)
    · rw [hq, List.mem_append, not_or] at hx
      rw [tm_none fun p hp z => hx.1 (List.mem_map.mpr ⟨p, hp, z⟩), tm_none fun p hp z => hx.2 (List.mem_map.mpr ⟨p, hp, z⟩)]
  · rintro ⟨rfl, h⟩ n _
    obtain rfl := canon_ext C1 C2 h
    exact decide_eq_true rfl
theorem below_iff {c d : Int} {ps rs : List Pr} {qs : List Str} (C1 : Canon ps) (C2 : Canon rs) (hc : 0 ≤ c) (hd : 0 ≤ d) (hq : ∀ x, x ∈ qs ↔ x ∈ ps.map (·.1) ++ rs.map (·.1)) :
    ((fars qs (c + d + 1)).map fun n => decide (c + W (tm n) ps ≤ d + W (tm n) rs)).all id = true ↔ ¬ Exc c d ps rs := by
  rw [List.all_map, List.all_eq_true]
  constructor
  · intro h z
    have h0 := of_decide_eq_true (h [] List.mem_cons_self)
    rw [W_nil (num := tm []) (fun _ => rfl), W_nil (num := tm []) (fun _ => rfl)] at h0
    rcases z with z | ⟨p, hp, z⟩
    · omega
    · have h1 := of_decide_eq_true (h [(p.1, c + d + 1)] (List.mem_cons_of_mem _ (List.mem_map.mpr ⟨p.1, (hq p.1).mpr (List.mem_append.mpr (.inl (List.mem_map_of_mem hp))), rfl⟩)))
      rw [W_if (one_if p.1 _) (names_nodup C1.pw), W_if (one_if p.1 _) (names_nodup C2.pw), tm_mem (names_nodup C1.pw) hp] at h1
      have h2 := Int.mul_le_mul_of_nonneg_right (show tm rs p.1 + 1 ≤ p.2 by omega) (show 0 ≤ c + d + 1 by omega)
      rw [Int.add_mul] at h2
      omega
  · intro h n hn
    refine decide_eq_true ?_
    have h0 : c ≤ d := Int.not_lt.mp fun z => h (.inl z)
    have hn0 : ∀ x, 0 ≤ tm n x := by
      rcases List.mem_cons.mp hn with rfl | hn
      · exact fun _ => Int.le_refl 0
      · obtain ⟨x, _, rfl⟩ := List.mem_map.mp hn
        intro y
        rw [one_if]
        split <;> omega
    have := W_le hn0 C1 C2 h
    omega
def PartR (c d : Int) (ps rs : List Pr) (H : Hp) (x : V) : Prop :=
  (x = .non ∧ c = d ∧ ∀ y, tm ps y = tm rs y) ∨ ∃ (t : Addr) (kvs : List Pr), x = .ref t ∧ H t = some (.dK (dk kvs)) ∧ ¬ (c = d ∧ ∀ y, tm ps y = tm rs y) ∧ (∀ y, 0 ≤ tm kvs y ∧ tm kvs y ≤ 66 * 10 ^ 58) ∧ c + W (tm kvs) ps ≠ d + W (tm kvs) rs
def ExcR (c d : Int) (ps rs : List Pr) (H : Hp) (x : V) : Prop :=
  (x = .non ∧ ¬ Exc c d ps rs) ∨ ∃ (t : Addr) (kvs : List Pr), x = .ref t ∧ H t = some (.dK (dk kvs)) ∧ Exc c d ps rs ∧ (∀ y, 0 ≤ tm kvs y ∧ tm kvs y ≤ 66 * 10 ^ 58) ∧ d + W (tm kvs) rs < c + W (tm kvs) ps
theorem PartR.mono {c d : Int} {ps rs : List Pr} {H H' : Hp} {x : V} (s : Same H H') (h : PartR c d ps rs H x) : PartR c d ps rs H' x := by
  rcases h with h | ⟨t, kvs, e, ht, r⟩
  · exact .inl h
  · exact .inr ⟨t, kvs, e, s _ _ ht, r⟩
theorem ExcR.mono {c d : Int} {ps rs : List Pr} {H H' : Hp} {x : V} (s : Same H H') (h : ExcR c d ps rs H x) : ExcR c d ps rs H' x := by
  rcases h with h | ⟨t, kvs, e, ht, r⟩
  · exact .inl h
  · exact .inr ⟨t, kvs, e, s _ _ ht, r⟩
def spPart2 : Sp := fun vs H Q _ => ∃ (v u : V) (c d : Int) (ps rs : List Pr), vs = [v, u] ∧ Rep H (lenDv c ps) v ∧ Rep H (lenDv d rs) u ∧ Canon ps ∧ Canon rs ∧ ps.length ≤ 20 ∧ rs.length ≤ 20 ∧ ∀ (H' : Hp) (x : V), Same H H' → PartR c d ps rs H' x → Q x H'
theorem part_of (vs : List V) (H : Hp) (Q : VK) (E : XK) (h : spPart2 vs H Q E) : spPart vs H Q E := by
  obtain ⟨v, u, c, d, ps, rs, rfl, R1, R2, C1, C2, l1, l2, q⟩ := h
  refine ⟨v, u, c, d, ps, rs, rfl, R1, R2, C1, C2, l1, l2, fun h H' t kvs s _ ht _ z => ?_, fun h x hx H' t kvs s _ ht _ z => ?_, fun h hx H' s => q H' _ s (.inl ⟨rfl, h, hx⟩)⟩
  · refine q H' _ s (.inr ⟨t, kvs, rfl, ht, fun e => h e.1, fun y => by rw [z]; omega, ?_⟩)
    rw [W_nil z, W_nil z]; omega
  · refine q H' _ s (.inr ⟨t, kvs, rfl, ht, fun e => hx (e.2 x), fun y => by rw [z]; split <;> omega, ?_⟩)
    rw [W_if z (names_nodup C1.pw), W_if z (names_nodup C2.pw)]; omega
def spExc2 : Sp := fun vs H Q _ => ∃ (v u : V) (c d : Int) (ps rs : List Pr), vs = [v, u] ∧ Rep H (lenDv c ps) v ∧ Rep H (lenDv d rs) u ∧ Canon ps ∧ Canon rs ∧ ps.length ≤ 20 ∧ rs.length ≤ 20 ∧ 0 ≤ c ∧ d ≤ 65 * 10 ^ 58 ∧ (∀ p ∈ ps, p.2 < 10 ^ 60) ∧ ∀ (H' : Hp) (x : V), Same H H' → ExcR c d ps rs H' x → Q x H'
theorem exc_of (vs : List V) (H : Hp) (Q : VK) (E : XK) (h : spExc2 vs H Q E) : spExc vs H Q E := by
  obtain ⟨v, u, c, d, ps, rs, rfl, R1, R2, C1, C2, l1, l2, hc, hd, hB, q⟩ := h
  refine ⟨v, u, c, d, ps, rs, rfl, R1, R2, C1, C2, l1, l2, hB, fun h H' t kvs s _ ht _ z => ?_, fun h p hp hx H' t kvs s _ ht _ z => ?_, fun h H' s => q H' _ s (.inl ⟨rfl, h⟩)⟩
  · refine q H' _ s (.inr ⟨t, kvs, rfl, ht, .inl h, fun y => by rw [z]; omega, ?_⟩)
    rw [W_nil z, W_nil z]; omega
  · have g0 : 0 < p.2 - tm rs p.1 := by omega
    have n0 : 0 ≤ (d - c) / (p.2 - tm rs p.1) := Int.ediv_nonneg (by omega) (by omega)
    have n1 : (d - c) / (p.2 - tm rs p.1) ≤ d - c := Int.ediv_le_self _ (by omega)
    refine q H' _ s (.inr ⟨t, kvs, rfl, ht, .inr ⟨p, hp, hx⟩, fun y => by rw [z]; split <;> omega, ?_⟩)
    rw [W_if z (names_nodup C1.pw), W_if z (names_nodup C2.pw), tm_mem (names_nodup C1.pw) hp]
    have h1 := Int.lt_ediv_add_one_mul_self (d - c) g0
    generalize (d - c) / (p.2 - tm rs p.1) + 1 = n at h1 ⊢
    rw [Int.mul_sub, Int.mul_comm n, Int.mul_comm n] at h1
    omega
/-- a test of two, the second of which doesn't hold -/
theorem and_go {t1 t2 : TT} {σ : St} {H : Hp} {Q : Bool → Hp → Prop} (q : ∀ H', Same H H' → Q false H') (f : (∀ H', Same H H' → Q false H') → tAnd t1 t2 σ H Q) : tAnd t1 t2 σ H Q := f q
theorem tnx {D : Ends} {σ : St} {H : Hp} (h : D.nx σ H) : tNext D σ H := h
def spRight : Sp := fun vs H Q _ => ∃ (v u : V) (k c d : Int) (ps rs : List Pr), vs = [v, u, .int k] ∧ Rep H (lenDv c ps) v ∧ Rep H (lenDv d rs) u ∧ Canon ps ∧ Canon rs ∧ ps.length ≤ 5 ∧ rs.length ≤ 5 ∧ 0 ≤ c ∧ c ≤ 65 * 10 ^ 58 ∧ 0 ≤ d ∧ d ≤ 65 * 10 ^ 58 ∧ (∀ p ∈ ps, p.2 ≤ 2 * 10 ^ 58) ∧ (∀ p ∈ rs, p.2 ≤ 2 * 10 ^ 58) ∧ ∀ H', Same H H' → Q (.bl true) H'
section
variable {P : Program} {w : World} {K : PySem.W.Frag} {mg : Str → Option Value} {base : Heap}
theorem mo {ps kvs : List Pr} (C : Canon ps) (hB : ∀ p ∈ ps, p.2 ≤ 2 * 10 ^ 58) (hk : ∀ y, 0 ≤ tm kvs y ∧ tm kvs y ≤ 131 * 10 ^ 58) : ∀ p ∈ ps, IntMulOk p.2 (tm kvs p.1) := fun p hp =>
  mul_big (by have := C.ge p hp; omega) (by have := hB p hp; omega) (by have := hk p.1; omega) (by have := hk p.1; omega)
theorem sc_right : FnScope ["_law_a", "_law_b", "_law_k", "_law_far_here", "_law_same", "_law_below", "_law_parted", "_law_passed", "_law_numbers"] ["_law_a", "_law_b", "_law_k"] (defScope s_right) := ⟨rfl, rfl, rfl, by decide +kernel, rfl, by decide +kernel, by decide +kernel⟩
theorem ok_right {f : Addr} {fd : FuncData} {k0 : Nat} (F : Fun K "_law_right" "_law_right" s_right f fd) (T : Txt K mg) (D_law_far : Def P w K mg base k0 "_law_far" ["_law_a", "_law_b"] spFar) (D_law_near : Def P w K mg base k0 "_law_near" ["_law_a", "_law_b", "_law_k"] spNear)
    (D_law_worth : Def P w K mg base k0 "_law_worth" ["_law_a", "_law_numbers"] spWorth) (Dworth : Def P w K mg base k0 "worth" ["a", "numbers"] spWorth) (Dparting : Def P w K mg base k0 "parting" ["a", "b"] spPart2) (Dexceeding : Def P w K mg base k0 "exceeding" ["a", "b"] spExc2) :
    FnOk P w K mg base CX0 (k0 + 1) f fd ["_law_a", "_law_b", "_law_k"] spRight := by
  have nd : (["_law_a", "_law_b", "_law_k", "_law_far_here", "_law_same", "_law_below", "_law_parted", "_law_passed", "_law_numbers"] : List Str).Nodup := sc_right.nd
  refine F.ok sc_right (fun vs H Q E h => ?_) (fun cdv A outer s H vs Q E hr h => ?_)
  · obtain ⟨v, u, k, c, d, ps, rs, rfl, _⟩ := h
    rfl
  obtain ⟨v, u, k, c, d, ps, rs, rfl, R1, R2, C1, C2, l1, l2, hc, hcB, hd, hdB, B1, B2, q⟩ := h
  have hu := hu_of hr
  refine ⟨_, (pss_cons (ps_set (i := 3) nd rfl (Or.inl rfl) (pe_def D_law_far hr rfl (pa_cons (pv 0) (pa_cons (pv 1) pa_nil))))
      (pss_cons (ps_set (i := 4) nd rfl (Or.inl rfl) (pe_callB (call_all rfl) rfl T.all (by decide +kernel) (pa_cons (pe_lc (own := ["_law_numbers"]) (ix := [0, 1]) (pi_list (pv 3)) (.of rfl) rfl (fun _ _ _ => pg_name (i := 0) (lc_nd (l := ["_law_numbers", "_law_a", "_law_b"]) ((by decide +kernel)) rfl) rfl (Or.inl rfl)) (gw_name (by decide)) (fun _ _ _ => pif_nil) (fun _ _ _ => (pe_cmpR op_eq (pe_def D_law_worth hr rfl (pa_cons (pv 1) (pa_cons (pv 0) pa_nil))) (pe_def D_law_worth hr rfl (pa_cons (pv 2) (pa_cons (pv 0) pa_nil))) (nomark _)))) pa_nil)))
      (pss_cons (ps_set (i := 5) nd rfl (Or.inl rfl) (pe_callB (call_all rfl) rfl T.all (by decide +kernel) (pa_cons (pe_lc (own := ["_law_numbers"]) (ix := [0, 1]) (pi_list (pv 3)) (.of rfl) rfl (fun _ _ _ => pg_name (i := 0) (lc_nd (l := ["_law_numbers", "_law_a", "_law_b"]) ((by decide +kernel)) rfl) rfl (Or.inl rfl)) (gw_name (by decide)) (fun _ _ _ => pif_nil) (fun _ _ _ => (pe_cmpR op_le (pe_def D_law_worth hr rfl (pa_cons (pv 1) (pa_cons (pv 0) pa_nil))) (pe_def D_law_worth hr rfl (pa_cons (pv 2) (pa_cons (pv 0) pa_nil))) (nomark _)))) pa_nil)))
      (pss_cons (ps_set (i := 6) nd rfl (Or.inl rfl) (pe_def Dparting hr rfl (pa_cons (pv 0) (pa_cons (pv 1) pa_nil))))
      (pss_cons (ps_set (i := 7) nd rfl (Or.inl rfl) (pe_def Dexceeding hr rfl (pa_cons (pv 0) (pa_cons (pv 1) pa_nil))))
      (pss_cons (ps_if (PW.pt (pw_or (pt_cmpR op_ne (pe_cmpR op_isN (pv 6) pe_non (nomark _)) (pv 4) (nomark _)) (pw_or1 (pt_cmpR op_ne (pe_cmpR op_isN (pv 7) pe_non (nomark _)) (pv 5) (nomark _)))))
      (pss_one (ps_ret pe_bl))
      pss_nil)
      (pss_cons (ps_for PassesOwn.never rfl (pi_list (pe_def D_law_near hr rfl (pa_cons (pv 0) (pa_cons (pv 1) (pa_cons (pv 2) pa_nil))))) (pg_name (i := 8) nd rfl (Or.inl rfl))
      (pss_cons (ps_if (PW.pt (pw_and (pt_cmpR op_isN (pv 6) pe_non (nomark _)) (pw_and1 (pt_cmpR op_ne (pe_def Dworth hr rfl (pa_cons (pv 0) (pa_cons (pv 8) pa_nil))) (pe_def Dworth hr rfl (pa_cons (pv 1) (pa_cons (pv 8) pa_nil))) (nomark _)))))
      (pss_one (ps_ret pe_bl))
      pss_nil)
      (pss_cons (ps_if (PW.pt (pw_and (pt_cmpR op_isN (pv 7) pe_non (nomark _)) (pw_and1 (pt_cmpR op_gt (pe_def Dworth hr rfl (pa_cons (pv 0) (pa_cons (pv 8) pa_nil))) (pe_def Dworth hr rfl (pa_cons (pv 1) (pa_cons (pv 8) pa_nil))) (nomark _)))))
      (pss_one (ps_ret pe_bl))
      pss_nil)
      (pss_one (ps_if (pt_cmpR op_ne (pe_def Dworth hr rfl (pa_cons (pv 0) (pa_cons (pv 8) pa_nil))) (pe_def D_law_worth hr rfl (pa_cons (pv 0) (pa_cons (pv 8) pa_nil))) (nomark _))
      (pss_one (ps_ret pe_bl))
      pss_nil)))))
      (pss_cons (ps_if (PW.pt (pw_and (pt_cmpR op_notN (pv 6) pe_non (nomark _)) (pw_and1 (pt_cmpR op_eq (pe_def D_law_worth hr rfl (pa_cons (pv 0) (pa_cons (pv 6) pa_nil))) (pe_def D_law_worth hr rfl (pa_cons (pv 1) (pa_cons (pv 6) pa_nil))) (nomark _)))))
      (pss_one (ps_ret pe_bl))
      pss_nil)
      (pss_one (ps_ret (pe_or (pe_cmpR op_isN (pv 7) pe_non (nomark _)) (pe_one (pe_cmpR op_gt (pe_def D_law_worth hr rfl (pa_cons (pv 0) (pa_cons (pv 7) pa_nil))) (pe_def D_law_worth hr rfl (pa_cons (pv 1) (pa_cons (pv 7) pa_nil))) (nomark _)))))))))))))), ?_⟩
  refine ⟨_, rfl, _, rfl, v, u, c, d, ps, rs, rfl, R1, R2, by omega, by omega, fun H1 l zs qs s1 hl hz ez hq lq => ?_⟩
  have hzk : ∀ z ∈ zs, ∀ y, 0 ≤ tm z.2 y ∧ tm z.2 y ≤ 131 * 10 ^ 58 := fun z hz' y => by
    have hm : z.2 ∈ fars qs (c + d + 1) := by unfold fars; rw [← ez]; exact List.mem_map_of_mem hz'
    rcases List.mem_cons.mp hm with e | e
    · rw [e]; exact ⟨Int.le_refl 0, by show (0 : Int) ≤ 131 * 10 ^ 58; decide⟩
    · obtain ⟨x, _, e⟩ := List.mem_map.mp e
      rw [← e, one_if]
      split <;> omega
  have lz : zs.length ≤ 41 := by have := congrArg List.length ez; rw [List.length_map, List.length_cons, List.length_map] at this; omega
  refine ⟨_, rfl, l, rfl, ⟨_, SqL.of hl⟩, lc_list (xs := zs.map fun z => V.ref z.1) (fun i ys H' => ys = ((zs.take i).map fun z => decide (V.int (c + W (tm z.2) ps) = V.int (d + W (tm z.2) rs))).map V.bl ∧ Same H1 H') ⟨rfl, Same.refl _⟩ (fun i ys H' _ ⟨_, sx⟩ => SqL.of (sx _ _ hl)) ?_ ?_⟩
  · rintro i ys H2 x hx ⟨rfl, s2⟩
    rw [List.getElem?_map] at hx
    obtain ⟨z, hz', rfl⟩ := Option.map_eq_some_iff.mp hx
    have hzm := List.mem_of_getElem? hz'
    have s02 := s1.trans s2
    refine turn_name ⟨_, rfl, _, rfl, _, _, _, _, _, rfl, R1.mono s02, by omega, s2 _ _ (hz z hzm), mo C1 B1 (hzk z hzm), fun H3 s3 => ⟨_, rfl, _, rfl, _, _, _, _, _, rfl, (R2.mono s02).mono s3, by omega, s3 _ _ (s2 _ _ (hz z hzm)), mo C2 B2 (hzk z hzm), fun H4 s4 => ⟨rfl, ?_, ?_, s2.trans (s3.trans s4)⟩⟩⟩
    · simp only [List.length_map, List.length_take, sizeLine_eq]; omega
    · rw [List.take_add_one, hz', List.map_append, List.map_append]; rfl
  rintro ys H2 ⟨rfl, s2⟩ l4 hl4
  rw [List.length_map, List.take_length]
  refine ⟨l4, zs.map fun z => decide (V.int (c + W (tm z.2) ps) = V.int (d + W (tm z.2) rs)), rfl, SqL.of upd_same, ?_⟩
  have s3 := s2.trans (same_new hl4 (.lst ((zs.map fun z => decide (V.int (c + W (tm z.2) ps) = V.int (d + W (tm z.2) rs))).map V.bl)))
  generalize upd H2 l4 (.lst ((zs.map fun z => decide (V.int (c + W (tm z.2) ps) = V.int (d + W (tm z.2) rs))).map V.bl)) = H3 at s3 ⊢
  have sm := same_iff C1 C2 hc hd hq
  unfold fars at sm
  rw [← ez, List.map_map] at sm
  generalize e1 : (zs.map fun z => decide (V.int (c + W (tm z.2) ps) = V.int (d + W (tm z.2) rs))).all id = b1
  replace sm : b1 = true ↔ (c = d ∧ ∀ x, tm ps x = tm rs x) := by rw [← e1]; exact sm
  clear e1
  refine ⟨_, rfl, l, rfl, ⟨_, SqL.of (s3 _ _ hl)⟩, lc_list (xs := zs.map fun z => V.ref z.1) (fun i ys H' => ys = ((zs.take i).map fun z => decide (c + W (tm z.2) ps ≤ d + W (tm z.2) rs)).map V.bl ∧ Same H1 H') ⟨rfl, s3⟩ (fun i ys H' _ ⟨_, sx⟩ => SqL.of (sx _ _ hl)) ?_ ?_⟩
  · rintro i ys H2 x hx ⟨rfl, s2⟩
    rw [List.getElem?_map] at hx
    obtain ⟨z, hz', rfl⟩ := Option.map_eq_some_iff.mp hx
    have hzm := List.mem_of_getElem? hz'
    have s02 := s1.trans s2
    refine turn_name ⟨_, rfl, _, rfl, _, _, _, _, _, rfl, R1.mono s02, by omega, s2 _ _ (hz z hzm), mo C1 B1 (hzk z hzm), fun H3 s3 => ⟨_, rfl, _, rfl, _, _, _, _, _, rfl, (R2.mono s02).mono s3, by omega, s3 _ _ (s2 _ _ (hz z hzm)), mo C2 B2 (hzk z hzm), fun H4 s4 => ⟨_, _, rfl, rfl, ?_, ?_, s2.trans (s3.trans s4)⟩⟩⟩
    · simp only [List.length_map, List.length_take, sizeLine_eq]; omega
    · rw [List.take_add_one, hz', List.map_append, List.map_append]; rfl
  rintro ys H4 ⟨rfl, s4⟩ l5 hl5
  rw [List.length_map, List.take_length]
  refine ⟨l5, zs.map fun z => decide (c + W (tm z.2) ps ≤ d + W (tm z.2) rs), rfl, SqL.of upd_same, ?_⟩
  have s5 := s1.trans (s4.trans (same_new hl5 (.lst ((zs.map fun z => decide (c + W (tm z.2) ps ≤ d + W (tm z.2) rs)).map V.bl))))
  generalize upd H4 l5 (.lst ((zs.map fun z => decide (c + W (tm z.2) ps ≤ d + W (tm z.2) rs)).map V.bl)) = H5 at s5 ⊢
  have bl := below_iff C1 C2 hc hd hq
  unfold fars at bl
  rw [← ez, List.map_map] at bl
  generalize e2 : (zs.map fun z => decide (c + W (tm z.2) ps ≤ d + W (tm z.2) rs)).all id = b2
  replace bl : b2 = true ↔ ¬ Exc c d ps rs := by rw [← e2]; exact bl
  clear e2
  refine ⟨_, rfl, _, rfl, v, u, c, d, ps, rs, rfl, R1.mono s5, R2.mono s5, C1, C2, by omega, by omega, fun H6 v6 s6 p6 => ?_⟩
  have s06 := s5.trans s6
  refine ⟨_, rfl, _, rfl, v, u, c, d, ps, rs, rfl, R1.mono s06, R2.mono s06, C1, C2, by omega, by omega, hc, hdB, fun p hp => by have := B1 p hp; omega, fun H7 v7 s7 p7 => ?_⟩
  have s07 := s06.trans s7
  replace p6 := p6.mono s7
  have d6 : decide (v6 = .non) = b1 := by
    rw [Bool.eq_iff_iff, sm, decide_eq_true_iff]
    rcases p6 with ⟨rfl, h⟩ | ⟨t, kvs, rfl, _, h, _⟩
    · exact ⟨fun _ => h, fun _ => rfl⟩
    · exact ⟨fun z => (by cases z), fun z => absurd z h⟩
  have d7 : decide (v7 = .non) = b2 := by
    rw [Bool.eq_iff_iff, bl, decide_eq_true_iff]
    rcases p7 with ⟨rfl, h⟩ | ⟨t, kvs, rfl, _, h, _⟩
    · exact ⟨fun _ => h, fun _ => rfl⟩
    · exact ⟨fun z => (by cases z), fun z => absurd h z⟩
  refine ⟨_, rfl, rfl, _, rfl, rfl, _, rfl, ?_⟩
  rw [d6, decide_eq_true rfl]
  refine iteF ⟨_, rfl, rfl, _, rfl, rfl, _, rfl, ?_⟩
  rw [d7, decide_eq_true rfl]
  refine iteF ⟨_, rfl, _, rfl, _, rfl, v, u, k, c, d, ps, rs, rfl, R1.mono s07, R2.mono s07, by omega, by omega, fun H8 m zs8 s8 hm hz8 lz8 bz8 => ?_⟩
  have s08 := s07.trans s8
  replace p6 := p6.mono s8
  replace p7 := p7.mono s8
  refine ⟨m, rfl, ⟨_, SqL.of hm⟩, for_list (xs := zs8.map fun z => V.ref z.1) (fun i σ H' => ∃ (o8 : Option V), σ = [some v, some u, some (.int k), some (.ref l), some (.bl b1), some (.bl b2), some v6, some v7, o8] ∧ Same H8 H') ⟨_, rfl, Same.refl _⟩ (fun i σ H' _ ⟨_, _, sx⟩ => SqL.of (sx _ _ hm)) ?T1 ?_⟩
  case T1 =>
    rintro i x σ H9 hx ⟨o8, rfl, s9⟩
    rw [List.getElem?_map] at hx
    obtain ⟨z, hz', rfl⟩ := Option.map_eq_some_iff.mp hx
    have hzm := List.mem_of_getElem? hz'
    have hk : ∀ y, 0 ≤ tm z.2 y ∧ tm z.2 y ≤ 131 * 10 ^ 58 := fun y => by have := bz8 z hzm y; omega
    have s09 := s08.trans s9
    have t9 := s9 _ _ (hz8 z hzm)
    refine and_go ?A1 (fun q => ⟨_, rfl, rfl, _, rfl, ite2 (fun h6 => ?B1) (fun _ => q _ (Same.refl _))⟩)
    case B1 =>
      rcases p6 with ⟨rfl, e, h⟩ | ⟨t, kvs, rfl, _⟩
      · obtain rfl := canon_ext C1 C2 h
        refine ⟨_, rfl, _, rfl, _, _, _, _, _, rfl, R1.mono s09, by omega, t9, mo C1 B1 hk, fun H10 s10 => ⟨_, rfl, _, rfl, _, _, _, _, _, rfl, (R2.mono s09).mono s10, by omega, s10 _ _ t9, mo C2 B2 hk, fun H11 s11 => ⟨rfl, _, rfl, ?_⟩⟩⟩
        rw [decide_eq_true (by rw [e])]
        exact q _ (s10.trans s11)
      · cases of_decide_eq_true h6
    intro H10 s10
    refine iteF (tnx ?_)
    dsimp only
    have s010 := s09.trans s10
    have t10 := s10 _ _ t9
    refine and_go ?A2 (fun q => ⟨_, rfl, rfl, _, rfl, ite2 (fun h6 => ?B2) (fun _ => q _ (Same.refl _))⟩)
    case B2 =>
      rcases p7 with ⟨rfl, h⟩ | ⟨t, kvs, rfl, _⟩
      · refine ⟨_, rfl, _, rfl, _, _, _, _, _, rfl, R1.mono s010, by omega, t10, mo C1 B1 hk, fun H11 s11 => ⟨_, rfl, _, rfl, _, _, _, _, _, rfl, (R2.mono s010).mono s11, by omega, s11 _ _ t10, mo C2 B2 hk, fun H12 s12 => ⟨_, _, rfl, rfl, _, rfl, ?_⟩⟩⟩
        have h1 := W_le (num := tm z.2) (fun y => (hk y).1) C1 C2 h
        have h2 : c ≤ d := Int.not_lt.mp fun z => h (.inl z)
        rw [decide_eq_false (by omega)]
        exact q _ (s11.trans s12)
      · cases of_decide_eq_true h6
    intro H11 s11
    refine iteF (tnx ?_)
    dsimp only
    have s011 := s010.trans s11
    have t11 := s11 _ _ t10
    refine ⟨_, rfl, _, rfl, _, _, _, _, _, rfl, R1.mono s011, by omega, t11, mo C1 B1 hk, fun H12 s12 => ⟨_, rfl, _, rfl, _, _, _, _, _, rfl, (R1.mono s011).mono s12, by omega, s12 _ _ t11, mo C1 B1 hk, fun H13 s13 => ⟨rfl, _, rfl, ?_⟩⟩⟩
    rw [decide_eq_true rfl]
    refine iteF (tnx ?_)
    exact ⟨_, rfl, s9.trans (s10.trans (s11.trans (s12.trans s13)))⟩
  rintro σ H9 ⟨o8, rfl, s9⟩
  have s09 := s08.trans s9
  replace p6 := p6.mono s9
  replace p7 := p7.mono s9
  dsimp only
  refine and_go ?A3 (fun q => ⟨_, rfl, rfl, _, rfl, ite2 (fun h6 => ?B3) (fun _ => q _ (Same.refl _))⟩)
  case B3 =>
    rcases p6 with ⟨rfl, e, h⟩ | ⟨t, kvs, rfl, ht, _, hk, hn⟩
    · rw [decide_eq_true rfl] at h6; cases h6
    · have hk' : ∀ y, 0 ≤ tm kvs y ∧ tm kvs y ≤ 131 * 10 ^ 58 := fun y => by have := hk y; omega
      refine ⟨_, rfl, _, rfl, _, _, _, _, _, rfl, R1.mono s09, by omega, ht, mo C1 B1 hk', fun H10 s10 => ⟨_, rfl, _, rfl, _, _, _, _, _, rfl, (R2.mono s09).mono s10, by omega, s10 _ _ ht, mo C2 B2 hk', fun H11 s11 => ⟨rfl, _, rfl, ?_⟩⟩⟩
      rw [decide_eq_false (fun z => hn (V.int.inj z))]
      exact q _ (s10.trans s11)
  intro H10 s10
  refine iteF (tnx ?_)
  dsimp only
  have s010 := s09.trans s10
  replace p7 := p7.mono s10
  refine ⟨_, rfl, rfl, _, rfl, ?_⟩
  rcases p7 with ⟨rfl, h⟩ | ⟨t, kvs, rfl, ht, _, hk, hn⟩
  · rw [decide_eq_true rfl]
    exact iteT (q _ s010)
  · rw [decide_eq_false (fun z => by cases z)]
    have hk' : ∀ y, 0 ≤ tm kvs y ∧ tm kvs y ≤ 131 * 10 ^ 58 := fun y => by have := hk y; omega
    refine iteF ⟨_, rfl, _, rfl, _, _, _, _, _, rfl, R1.mono s010, by omega, ht, mo C1 B1 hk', fun H11 s11 => ⟨_, rfl, _, rfl, _, _, _, _, _, rfl, (R2.mono s010).mono s11, by omega, s11 _ _ ht, mo C2 B2 hk', fun H12 s12 => ⟨_, _, rfl, rfl, ?_⟩⟩⟩
    show Q (.bl (decide (d + W (tm kvs) rs < c + W (tm kvs) ps))) H12
    rw [decide_eq_true hn]
    exact q _ (s010.trans (s11.trans s12))
end
end K07

set_option maxHeartbeats 1000000
namespace K07
open PySem L2
abbrev s_law : Stmt := top 18
def spLaw (K : PySem.W.Frag) : Sp := fun vs H Q _ => ∃ (a : Addr) (ns : List Int), vs = [.ref a] ∧ SqL K H a (ns.map V.int) ∧ ns.length ≤ 63 ∧ ∀ H', Q (.bl true) H'
section
variable {P : Program} {w : World} {K : PySem.W.Frag} {mg : Str → Option Value} {base : Heap}
theorem sc_law : FnScope ["_law_script", "_law_k", "_law_two"] ["_law_script"] (defScope s_law) := ⟨rfl, rfl, rfl, by decide +kernel, rfl, by decide +kernel, by decide +kernel⟩
theorem ok_law {f : Addr} {fd : FuncData} {k0 : Nat} (F : Fun K "law" "law" s_law f fd) (T : Txt K mg) (D_law_twos : Def P w K mg base k0 "_law_twos" ["_law_script"] (spTwos K)) (D_law_right : Def P w K mg base k0 "_law_right" ["_law_a", "_law_b", "_law_k"] spRight) :
    FnOk P w K mg base CX0 (k0 + 1) f fd ["_law_script"] (spLaw K) := by
  have nd : (["_law_script", "_law_k", "_law_two"] : List Str).Nodup := sc_law.nd
  refine F.ok sc_law (fun vs H Q E h => ?_) (fun cdv A outer s H vs Q E hr h => ?_)
  · obtain ⟨a, ns, rfl, _⟩ := h
    rfl
  obtain ⟨a, ns, rfl, hS, h63, q⟩ := h
  refine ⟨_, (pss_cons (ps_for PassesOwn.never rfl (pi_enum rfl T.enumerate (pa_cons (pe_def D_law_twos hr rfl (pa_cons (pv 0) pa_nil)) pa_nil)) (pg_tup rfl (pgs_cons (pg_name (i := 1) nd rfl (Or.inl rfl)) (pgs_cons (pg_name (i := 2) nd rfl (Or.inl rfl)) pgs_nil)))
      (pss_one (ps_if (PW.pt (pw_or (pt_not (pt_val (pe_def D_law_right hr rfl (pa_cons (pe_ix ix_tup (pv 2) pe_int (fun _ _ => rfl)) (pa_cons (pe_ix ix_tup (pv 2) pe_int (fun _ _ => rfl)) (pa_cons (pe_op op_add (pv 1) (pe_op op_mod (pe_ix ix_tup (pe_ix ix_tup (pv 2) pe_int (fun _ _ => rfl)) pe_int (fun _ _ => rfl)) pe_int)) pa_nil)))))) (pw_or1 (pt_not (pt_val (pe_def D_law_right hr rfl (pa_cons (pe_ix ix_tup (pv 2) pe_int (fun _ _ => rfl)) (pa_cons (pe_ix ix_tup (pv 2) pe_int (fun _ _ => rfl)) (pa_cons (pv 1) pa_nil)))))))))
      (pss_one (ps_ret pe_bl))
      pss_nil)))
      (pss_one (ps_ret pe_bl))), ?_⟩
  refine ⟨_, rfl, a, ns, rfl, hS, h63, fun H2 l ys xs2 s2 hl h52 hnm2 two => ⟨l, rfl, ⟨ys, SqL.of hl⟩, for_enum (xs := ys) (fun i σ H' => ∃ (o1 o2 : Option V), σ = [some (.ref a), o1, o2] ∧ Same H2 H') ⟨_, _, rfl, Same.refl _⟩ (fun i σ H' _ ⟨_, _, _, sx⟩ => SqL.of (sx _ _ hl)) ?T1 ?_⟩⟩
  case T1 =>
    rintro i x σ H3 g hx ⟨o1, o2, rfl, s3⟩ hg
    obtain ⟨p, v, u, c, d, ps, qs, rfl, hp, R1, R2, hc, hcB, hd, hdB, G1, G2, B1, B2⟩ := (two x (List.mem_of_getElem? hx)).ex
    have C1 := G1.canon
    have C2 := G2.canon
    have l1 := G1.five h52
    have l2 := G2.five h52
    have s4 := s3.trans (same_new hg (.tup [.int i, .ref p]))
    obtain ⟨a0, a1, us, rfl, ha, ha1, ru, lu⟩ := len_inv R1
    refine ⟨g, _, rfl, SqT.of upd_same, rfl, _, _, rfl, _, _, rfl, rfl, ?_⟩
    refine ⟨_, rfl, p, _, 0, .ref a0, rfl, rfl, SqT.of (s4 _ _ hp), atI_nat (j := 0) rfl, _, rfl, p, _, 1, u, rfl, rfl, SqT.of (s4 _ _ hp), atI_nat (j := 1) rfl, _, rfl, _, rfl, p, _, 0, .ref a0, rfl, rfl, SqT.of (s4 _ _ hp), atI_nat (j := 0) rfl, a0, _, 0, .int c, rfl, rfl, SqT.of (s4 _ _ ha), atI_nat (j := 0) rfl, _, _, rfl, rfl, (by show (0 : Int) < 1009; decide), _, _, rfl, rfl, ?_⟩
    refine ⟨_, _, _, _, _, _, _, rfl, R1.mono s4, R2.mono s4, C1, C2, l1, l2, hc, hcB, hd, hdB, B1, B2, fun H5 s5 => ?_⟩
    have s6 := s4.trans s5
    refine ⟨_, rfl, iteF ?_⟩
    refine ⟨_, rfl, p, _, 1, u, rfl, rfl, SqT.of (s6 _ _ hp), atI_nat (j := 1) rfl, _, rfl, p, _, 0, .ref a0, rfl, rfl, SqT.of (s6 _ _ hp), atI_nat (j := 0) rfl, _, rfl, ?_⟩
    refine ⟨_, _, _, _, _, _, _, rfl, R2.mono s6, R1.mono s6, C2, C1, l2, l1, hd, hdB, hc, hcB, B2, B1, fun H7 s7 => ?_⟩
    exact ⟨_, rfl, iteF ⟨_, _, rfl, s6.trans s7⟩⟩
  rintro σ H3 ⟨o1, o2, rfl, s3⟩
  exact q H3
end
end K07

set_option maxHeartbeats 1000000
namespace K07
open PySem L2
theorem all_mk {l : PySem.W.OpenLaw} {w : World} {K : PySem.W.Frag} {h : Heap} {mg : Str → Option Value} {fa f1 f2 f3 f4 f5 f6 f7 f8 f9 f10 f11 f12 f13 f14 f15 f16 f17 : Addr} (X : K.In h) (G : h.Ns mainGlobals mg) (hfa : mg "law" = some (.ref fa))
    {od1 an1 od2 an2 od3 an3 od4 an4 od5 an5 od6 an6 od7 an7 od8 an8 od9 an9 od10 an10 od11 an11 od12 an12 od13 an13 od14 an14 od15 an15 od16 an16 od17 an17 : Option Addr} {sl1 sl2 sl3 sl4 sl5 sl6 sl7 sl8 sl9 sl10 sl11 sl12 sl13 sl14 sl15 sl16 sl17 : Array (Option Value)}
    {oc1 kV1 dc1 pm1 cd1 ct1 oc2 kV2 dc2 pm2 cd2 ct2 oc3 kV3 dc3 pm3 cd3 ct3 oc4 kV4 dc4 pm4 cd4 ct4 oc5 kV5 dc5 pm5 cd5 ct5 oc6 kV6 dc6 pm6 cd6 ct6 oc7 kV7 dc7 pm7 cd7 ct7 oc8 kV8 dc8 pm8 cd8 ct8 oc9 kV9 dc9 pm9 cd9 ct9 oc10 kV10 dc10 pm10 cd10 ct10 oc11 kV11 dc11 pm11 cd11 ct11 oc12 kV12 dc12 pm12 cd12 ct12 oc13 kV13 dc13 pm13 cd13 ct13 oc14 kV14 dc14 pm14 cd14 ct14 oc15 kV15 dc15 pm15 cd15 ct15 oc16 kV16 dc16 pm16 cd16 ct16 oc17 kV17 dc17 pm17 cd17 ct17 : Value}
    (a1 : PySem.W.nsIn K mainGlobals "worth" = some (some (.ref f1)))
    (l1 : K.lookup f1 = some ⟨oc1, od1, .func (PySem.W.fnOf "worth" "worth" (defArgs s_worth) (defBody s_worth) (defScope s_worth) .none kV1 dc1 pm1 an1 cd1 ct1), sl1⟩)
    (c1 : PySem.W.codeIn K cd1 "worth" = true) (k1 : PySem.W.keepIn K (.ref f1) = true)
    (a2 : PySem.W.nsIn K mainGlobals "names_of" = some (some (.ref f2)))
    (l2 : K.lookup f2 = some ⟨oc2, od2, .func (PySem.W.fnOf "names_of" "names_of" (defArgs s_names_of) (defBody s_names_of) (defScope s_names_of) .none kV2 dc2 pm2 an2 cd2 ct2), sl2⟩)
    (c2 : PySem.W.codeIn K cd2 "names_of" = true) (k2 : PySem.W.keepIn K (.ref f2) = true)
    (a3 : PySem.W.nsIn K mainGlobals "noughts" = some (some (.ref f3)))
    (l3 : K.lookup f3 = some ⟨oc3, od3, .func (PySem.W.fnOf "noughts" "noughts" (defArgs s_noughts) (defBody s_noughts) (defScope s_noughts) .none kV3 dc3 pm3 an3 cd3 ct3), sl3⟩)
    (c3 : PySem.W.codeIn K cd3 "noughts" = true) (k3 : PySem.W.keepIn K (.ref f3) = true)
    (a4 : PySem.W.nsIn K mainGlobals "parting" = some (some (.ref f4)))
    (l4 : K.lookup f4 = some ⟨oc4, od4, .func (PySem.W.fnOf "parting" "parting" (defArgs s_parting) (defBody s_parting) (defScope s_parting) .none kV4 dc4 pm4 an4 cd4 ct4), sl4⟩)
    (c4 : PySem.W.codeIn K cd4 "parting" = true) (k4 : PySem.W.keepIn K (.ref f4) = true)
    (a5 : PySem.W.nsIn K mainGlobals "exceeding" = some (some (.ref f5)))
    (l5 : K.lookup f5 = some ⟨oc5, od5, .func (PySem.W.fnOf "exceeding" "exceeding" (defArgs s_exceeding) (defBody s_exceeding) (defScope s_exceeding) .none kV5 dc5 pm5 an5 cd5 ct5), sl5⟩)
    (c5 : PySem.W.codeIn K cd5 "exceeding" = true) (k5 : PySem.W.keepIn K (.ref f5) = true)
    (a6 : PySem.W.nsIn K mainGlobals "_law_cell_at" = some (some (.ref f6)))
    (l6 : K.lookup f6 = some ⟨oc6, od6, .func (PySem.W.fnOf "_law_cell_at" "_law_cell_at" (defArgs s_cell_at) (defBody s_cell_at) (defScope s_cell_at) .none kV6 dc6 pm6 an6 cd6 ct6), sl6⟩)
    (c6 : PySem.W.codeIn K cd6 "_law_cell_at" = true) (k6 : PySem.W.keepIn K (.ref f6) = true)
    (a7 : PySem.W.nsIn K mainGlobals "_law_mixed" = some (some (.ref f7)))
    (l7 : K.lookup f7 = some ⟨oc7, od7, .func (PySem.W.fnOf "_law_mixed" "_law_mixed" (defArgs s_mixed) (defBody s_mixed) (defScope s_mixed) .none kV7 dc7 pm7 an7 cd7 ct7), sl7⟩)
    (c7 : PySem.W.codeIn K cd7 "_law_mixed" = true) (k7 : PySem.W.keepIn K (.ref f7) = true)
    (a8 : PySem.W.nsIn K mainGlobals "_law_names" = some (some (.ref f8)))
    (l8 : K.lookup f8 = some ⟨oc8, od8, .func (PySem.W.fnOf "_law_names" "_law_names" (defArgs s_names) (defBody s_names) (defScope s_names) .none kV8 dc8 pm8 an8 cd8 ct8), sl8⟩)
    (c8 : PySem.W.codeIn K cd8 "_law_names" = true) (k8 : PySem.W.keepIn K (.ref f8) = true)
    (a9 : PySem.W.nsIn K mainGlobals "_law_made" = some (some (.ref f9)))
    (l9 : K.lookup f9 = some ⟨oc9, od9, .func (PySem.W.fnOf "_law_made" "_law_made" (defArgs s_made) (defBody s_made) (defScope s_made) .none kV9 dc9 pm9 an9 cd9 ct9), sl9⟩)
    (c9 : PySem.W.codeIn K cd9 "_law_made" = true) (k9 : PySem.W.keepIn K (.ref f9) = true)
    (a10 : PySem.W.nsIn K mainGlobals "_law_drawn" = some (some (.ref f10)))
    (l10 : K.lookup f10 = some ⟨oc10, od10, .func (PySem.W.fnOf "_law_drawn" "_law_drawn" (defArgs s_drawn) (defBody s_drawn) (defScope s_drawn) .none kV10 dc10 pm10 an10 cd10 ct10), sl10⟩)
    (c10 : PySem.W.codeIn K cd10 "_law_drawn" = true) (k10 : PySem.W.keepIn K (.ref f10) = true)
    (a11 : PySem.W.nsIn K mainGlobals "_law_other" = some (some (.ref f11)))
    (l11 : K.lookup f11 = some ⟨oc11, od11, .func (PySem.W.fnOf "_law_other" "_law_other" (defArgs s_other) (defBody s_other) (defScope s_other) .none kV11 dc11 pm11 an11 cd11 ct11), sl11⟩)
    (c11 : PySem.W.codeIn K cd11 "_law_other" = true) (k11 : PySem.W.keepIn K (.ref f11) = true)
    (a12 : PySem.W.nsIn K mainGlobals "_law_twos" = some (some (.ref f12)))
    (l12 : K.lookup f12 = some ⟨oc12, od12, .func (PySem.W.fnOf "_law_twos" "_law_twos" (defArgs s_twos) (defBody s_twos) (defScope s_twos) .none kV12 dc12 pm12 an12 cd12 ct12), sl12⟩)
    (c12 : PySem.W.codeIn K cd12 "_law_twos" = true) (k12 : PySem.W.keepIn K (.ref f12) = true)
    (a13 : PySem.W.nsIn K mainGlobals "_law_worth" = some (some (.ref f13)))
    (l13 : K.lookup f13 = some ⟨oc13, od13, .func (PySem.W.fnOf "_law_worth" "_law_worth" (defArgs s_lworth) (defBody s_lworth) (defScope s_lworth) .none kV13 dc13 pm13 an13 cd13 ct13), sl13⟩)
    (c13 : PySem.W.codeIn K cd13 "_law_worth" = true) (k13 : PySem.W.keepIn K (.ref f13) = true)
    (a14 : PySem.W.nsIn K mainGlobals "_law_far" = some (some (.ref f14)))
    (l14 : K.lookup f14 = some ⟨oc14, od14, .func (PySem.W.fnOf "_law_far" "_law_far" (defArgs s_far) (defBody s_far) (defScope s_far) .none kV14 dc14 pm14 an14 cd14 ct14), sl14⟩)
    (c14 : PySem.W.codeIn K cd14 "_law_far" = true) (k14 : PySem.W.keepIn K (.ref f14) = true)
    (a15 : PySem.W.nsIn K mainGlobals "_law_near" = some (some (.ref f15)))
    (l15 : K.lookup f15 = some ⟨oc15, od15, .func (PySem.W.fnOf "_law_near" "_law_near" (defArgs s_near) (defBody s_near) (defScope s_near) .none kV15 dc15 pm15 an15 cd15 ct15), sl15⟩)
    (c15 : PySem.W.codeIn K cd15 "_law_near" = true) (k15 : PySem.W.keepIn K (.ref f15) = true)
    (a16 : PySem.W.nsIn K mainGlobals "_law_right" = some (some (.ref f16)))
    (l16 : K.lookup f16 = some ⟨oc16, od16, .func (PySem.W.fnOf "_law_right" "_law_right" (defArgs s_right) (defBody s_right) (defScope s_right) .none kV16 dc16 pm16 an16 cd16 ct16), sl16⟩)
    (c16 : PySem.W.codeIn K cd16 "_law_right" = true) (k16 : PySem.W.keepIn K (.ref f16) = true)
    (a17 : PySem.W.nsIn K mainGlobals "law" = some (some (.ref f17)))
    (l17 : K.lookup f17 = some ⟨oc17, od17, .func (PySem.W.fnOf "law" "law" (defArgs s_law) (defBody s_law) (defScope s_law) .none kV17 dc17 pm17 an17 cd17 ct17), sl17⟩)
    (c17 : PySem.W.codeIn K cd17 "law" = true) (k17 : PySem.W.keepIn K (.ref f17) = true)
    (z1 : PySem.W.nsIn K mainGlobals "len" = some none)
    (z2 : PySem.W.nsIn K mainGlobals "isinstance" = some none)
    (z3 : PySem.W.nsIn K mainGlobals "int" = some none)
    (z4 : PySem.W.nsIn K mainGlobals "bool" = some none)
    (z5 : PySem.W.nsIn K mainGlobals "tuple" = some none)
    (z6 : PySem.W.nsIn K mainGlobals "all" = some none)
    (z7 : PySem.W.nsIn K mainGlobals "range" = some none)
    (z8 : PySem.W.nsIn K mainGlobals "enumerate" = some none)
    (z9 : PySem.W.nsIn K mainGlobals "sorted" = some none)
    (z10 : PySem.W.nsIn K mainGlobals "max" = some none)
    (z11 : PySem.W.nsIn K mainGlobals "sum" = some none)
    (z12 : PySem.W.nsIn K mainGlobals "dict" = some none)
    (z13 : PySem.W.nsIn K mainGlobals "set" = some none)
    (z14 : PySem.W.nsIn K mainGlobals "list" = some none)
    (z15 : PySem.W.nsIn K mainGlobals "any" = some none)
    :
    ∃ fd : FuncData, (∀ (s : Shared) (v : Value), BindsTo s fd ⟨[v], []⟩ [("_law_script", v)]) ∧ ∀ base : Heap, K.In base → base.Ns mainGlobals mg → FnOk l.prog w K mg base CX0 6 fa fd ["_law_script"] (spLaw K) := by
  have e := hfa.symm.trans (PySem.W.mg_of X G a17)
  cases e
  have T : Txt K mg := ⟨PySem.W.mg_none_of X G z1, PySem.W.mg_none_of X G z2, PySem.W.mg_none_of X G z3, PySem.W.mg_none_of X G z4, PySem.W.mg_none_of X G z5, PySem.W.mg_none_of X G z6, PySem.W.mg_none_of X G z7, PySem.W.mg_none_of X G z8, PySem.W.mg_none_of X G z9, PySem.W.mg_none_of X G z10, PySem.W.mg_none_of X G z11, PySem.W.mg_none_of X G z12, PySem.W.mg_none_of X G z13, PySem.W.mg_none_of X G z14, PySem.W.mg_none_of X G z15⟩
  have F1 := fun_mk (st := s_worth) l1 c1 k1
  have b1 := F1.binds (ps := ["a", "numbers"]) fun _ _ _ _ _ _ us hl => match us, hl with | [_, _], _ => rfl
  have F2 := fun_mk (st := s_names_of) l2 c2 k2
  have b2 := F2.binds (ps := ["a"]) fun _ _ _ _ _ _ us hl => match us, hl with | [_], _ => rfl
  have F3 := fun_mk (st := s_noughts) l3 c3 k3
  have b3 := F3.binds (ps := ["a", "b"]) fun _ _ _ _ _ _ us hl => match us, hl with | [_, _], _ => rfl
  have F4 := fun_mk (st := s_parting) l4 c4 k4
  have b4 := F4.binds (ps := ["a", "b"]) fun _ _ _ _ _ _ us hl => match us, hl with | [_, _], _ => rfl
  have F5 := fun_mk (st := s_exceeding) l5 c5 k5
  have b5 := F5.binds (ps := ["a", "b"]) fun _ _ _ _ _ _ us hl => match us, hl with | [_, _], _ => rfl
  have F6 := fun_mk (st := s_cell_at) l6 c6 k6
  have b6 := F6.binds (ps := ["_law_script", "_law_k"]) fun _ _ _ _ _ _ us hl => match us, hl with | [_, _], _ => rfl
  have F7 := fun_mk (st := s_mixed) l7 c7 k7
  have b7 := F7.binds (ps := ["_law_cell", "_law_k"]) fun _ _ _ _ _ _ us hl => match us, hl with | [_, _], _ => rfl
  have F8 := fun_mk (st := s_names) l8 c8 k8
  have b8 := F8.binds (ps := ["_law_cell"]) fun _ _ _ _ _ _ us hl => match us, hl with | [_], _ => rfl
  have F9 := fun_mk (st := s_made) l9 c9 k9
  have b9 := F9.binds (ps := ["_law_count", "_law_times"]) fun _ _ _ _ _ _ us hl => match us, hl with | [_, _], _ => rfl
  have F10 := fun_mk (st := s_drawn) l10 c10 k10
  have b10 := F10.binds (ps := ["_law_cells", "_law_names_here"]) fun _ _ _ _ _ _ us hl => match us, hl with | [_, _], _ => rfl
  have F11 := fun_mk (st := s_other) l11 c11 k11
  have b11 := F11.binds (ps := ["_law_a", "_law_cells", "_law_names_here"]) fun _ _ _ _ _ _ us hl => match us, hl with | [_, _, _], _ => rfl
  have F12 := fun_mk (st := s_twos) l12 c12 k12
  have b12 := F12.binds (ps := ["_law_script"]) fun _ _ _ _ _ _ us hl => match us, hl with | [_], _ => rfl
  have F13 := fun_mk (st := s_lworth) l13 c13 k13
  have b13 := F13.binds (ps := ["_law_a", "_law_numbers"]) fun _ _ _ _ _ _ us hl => match us, hl with | [_, _], _ => rfl
  have F14 := fun_mk (st := s_far) l14 c14 k14
  have b14 := F14.binds (ps := ["_law_a", "_law_b"]) fun _ _ _ _ _ _ us hl => match us, hl with | [_, _], _ => rfl
  have F15 := fun_mk (st := s_near) l15 c15 k15
  have b15 := F15.binds (ps := ["_law_a", "_law_b", "_law_k"]) fun _ _ _ _ _ _ us hl => match us, hl with | [_, _, _], _ => rfl
  have F16 := fun_mk (st := s_right) l16 c16 k16
  have b16 := F16.binds (ps := ["_law_a", "_law_b", "_law_k"]) fun _ _ _ _ _ _ us hl => match us, hl with | [_, _, _], _ => rfl
  have F17 := fun_mk (st := s_law) l17 c17 k17
  refine ⟨PySem.W.fnOf "law" "law" (defArgs s_law) (defBody s_law) (defScope s_law) .none kV17 dc17 pm17 an17 cd17 ct17, fun s v => .of_eq rfl, fun base _ _ => ?_⟩
  have D1 : Def l.prog w K mg base 1 "worth" ["a", "numbers"] spWorth := ⟨f1, _, ok_worth F1 T, b1, k1, PySem.W.mg_of X G a1⟩
  have D2 : Def l.prog w K mg base 1 "names_of" ["a"] spNamesOf := ⟨f2, _, ok_names_of F2 T, b2, k2, PySem.W.mg_of X G a2⟩
  have D3 : Def l.prog w K mg base 2 "noughts" ["a", "b"] spNoughts := ⟨f3, _, ok_noughts (k := 1) F3 T (D2.up (by decide)), b3, k3, PySem.W.mg_of X G a3⟩
  have D4 : Def l.prog w K mg base 3 "parting" ["a", "b"] spPart2 := ⟨f4, _, (ok_parting (k := 2) F4 T (D3.up (by decide))).imp part_of, b4, k4, PySem.W.mg_of X G a4⟩
  have D5 : Def l.prog w K mg base 3 "exceeding" ["a", "b"] spExc2 := ⟨f5, _, (ok_exceeding (k := 2) F5 T (D3.up (by decide))).imp exc_of, b5, k5, PySem.W.mg_of X G a5⟩
  have D6 : Def l.prog w K mg base 1 "_law_cell_at" ["_law_script", "_law_k"] (spCell K) := ⟨f6, _, ok_cell_at F6 T, b6, k6, PySem.W.mg_of X G a6⟩
  have D7 : Def l.prog w K mg base 1 "_law_mixed" ["_law_cell", "_law_k"] spMixed := ⟨f7, _, ok_mixed F7 T, b7, k7, PySem.W.mg_of X G a7⟩
  have D8 : Def l.prog w K mg base 2 "_law_names" ["_law_cell"] spNms := ⟨f8, _, ok_names (k := 1) F8 T (D7.up (by decide)), b8, k8, PySem.W.mg_of X G a8⟩
  have D9 : Def l.prog w K mg base 1 "_law_made" ["_law_count", "_law_times"] spMade := ⟨f9, _, ok_made F9 T, b9, k9, PySem.W.mg_of X G a9⟩
  have D10 : Def l.prog w K mg base 2 "_law_drawn" ["_law_cells", "_law_names_here"] (spDrawn K) := ⟨f10, _, ok_drawn (k := 1) F10 T (D7.up (by decide)) (D9.up (by decide)), b10, k10, PySem.W.mg_of X G a10⟩
  have D11 : Def l.prog w K mg base 3 "_law_other" ["_law_a", "_law_cells", "_law_names_here"] (spOther K) := ⟨f11, _, ok_other (k := 2) F11 T (D7.up (by decide)) (D9.up (by decide)) (D10.up (by decide)), b11, k11, PySem.W.mg_of X G a11⟩
  have D12 : Def l.prog w K mg base 4 "_law_twos" ["_law_script"] (spTwos K) := ⟨f12, _, ok_twos (k := 3) F12 T (D6.up (by decide)) (D8.up (by decide)) (D10.up (by decide)) (D11.up (by decide)), b12, k12, PySem.W.mg_of X G a12⟩
  have D13 : Def l.prog w K mg base 1 "_law_worth" ["_law_a", "_law_numbers"] spWorth := ⟨f13, _, ok_lworth F13 T, b13, k13, PySem.W.mg_of X G a13⟩
  have D14 : Def l.prog w K mg base 1 "_law_far" ["_law_a", "_law_b"] spFar := ⟨f14, _, ok_far F14 T, b14, k14, PySem.W.mg_of X G a14⟩
  have D15 : Def l.prog w K mg base 2 "_law_near" ["_law_a", "_law_b", "_law_k"] spNear := ⟨f15, _, ok_near (k0 := 1) F15 T (D7.up (by decide)), b15, k15, PySem.W.mg_of X G a15⟩
  have D16 : Def l.prog w K mg base 4 "_law_right" ["_law_a", "_law_b", "_law_k"] spRight := ⟨f16, _, ok_right (k0 := 3) F16 T (D14.up (by decide)) (D15.up (by decide)) (D13.up (by decide)) (D1.up (by decide)) (D4.up (by decide)) (D5.up (by decide)), b16, k16, PySem.W.mg_of X G a16⟩
  exact ok_law (k0 := 5) F17 T (D12.up (by decide)) (D16.up (by decide))
theorem walk {l : PySem.W.OpenLaw} {q : Program} {loose : List Str} {XP : (Str → Option Value) → Heap → Prop} {YP : World → Heap → Prop} {d : DefRec} {K : Params → PySem.W.Frag} (hn : l.most = some 63) (hdf : d.params.defaults = [])
    (hY : ∀ (w : World) (h : Heap), YP w h → (K w.params).In h)
    (F : ∀ (w : World) (mg : Str → Option Value) (fa : Addr) (h : Heap), (K w.params).In h → h.Ns mainGlobals mg → mg d.name = some (.ref fa) →
      ∃ fd : FuncData, (∀ (s : Shared) (u : Value), BindsTo s fd ⟨[u], []⟩ [("_law_script", u)]) ∧ ∀ base : Heap, (K w.params).In base → base.Ns mainGlobals mg → FnOk l.prog w (K w.params) mg base CX0 6 fa fd ["_law_script"] (spLaw (K w.params))) :
    PySem.W.WalkO q loose XP YP l.row.toRowW d [] (fun f vs => PySem.call f vs) :=
  L2.walk_of (n := 63) (k := 6) (x := "_law_script") (CX := fun _ => CX0) (sp := fun w => spLaw (K w.params)) hn (by decide) hdf ⟨rfl, by decide, by decide⟩ hY F (fun _ _ a ns hl _ hS => ⟨a, ns, rfl, hS, hl, fun _ => rfl⟩) fun _ _ _ _ _ z => z
end K07
open PySem PySem.W PyProof.Rows
set_option maxRecDepth 100000 in
set_option maxHeartbeats 0 in
theorem PySem.Challenge.cw_indexwise_k07_whole_for_all_numbers_holds : PySem.Challenge.rw_indexwise_k07_whole_for_all_numbers.Holds := by
  w_on; o_law; k_head; (case hw => w_witness2)
  k_fill
  refine K07.walk (l := PySem.Challenge.rw_indexwise_k07_whole_for_all_numbers) rfl rfl (fun w h Y => PySem.W.kIn_of Y) ?F
  case F =>
    intro w mg fa h KX G hmg
    refine' K07.all_mk KX G hmg ?a1 ?l1 ?c1 ?k1 ?a2 ?l2 ?c2 ?k2 ?a3 ?l3 ?c3 ?k3 ?a4 ?l4 ?c4 ?k4 ?a5 ?l5 ?c5 ?k5 ?a6 ?l6 ?c6 ?k6 ?a7 ?l7 ?c7 ?k7 ?a8 ?l8 ?c8 ?k8 ?a9 ?l9 ?c9 ?k9 ?a10 ?l10 ?c10 ?k10 ?a11 ?l11 ?c11 ?k11 ?a12 ?l12 ?c12 ?k12 ?a13 ?l13 ?c13 ?k13 ?a14 ?l14 ?c14 ?k14 ?a15 ?l15 ?c15 ?k15 ?a16 ?l16 ?c16 ?k16 ?a17 ?l17 ?c17 ?k17 ?z1 ?z2 ?z3 ?z4 ?z5 ?z6 ?z7 ?z8 ?z9 ?z10 ?z11 ?z12 ?z13 ?z14 ?z15
    (case a1 => k_is); (case l1 => k_is); (case c1 => k_is); (case k1 => k_is)
    (case a2 => k_is); (case l2 => k_is); (case c2 => k_is); (case k2 => k_is)
    (case a3 => k_is); (case l3 => k_is); (case c3 => k_is); (case k3 => k_is)
    (case a4 => k_is); (case l4 => k_is); (case c4 => k_is); (case k4 => k_is)
    (case a5 => k_is); (case l5 => k_is); (case c5 => k_is); (case k5 => k_is)
    (case a6 => k_is); (case l6 => k_is); (case c6 => k_is); (case k6 => k_is)
    (case a7 => k_is); (case l7 => k_is); (case c7 => k_is); (case k7 => k_is)
    (case a8 => k_is); (case l8 => k_is); (case c8 => k_is); (case k8 => k_is)
    (case a9 => k_is); (case l9 => k_is); (case c9 => k_is); (case k9 => k_is)
    (case a10 => k_is); (case l10 => k_is); (case c10 => k_is); (case k10 => k_is)
    (case a11 => k_is); (case l11 => k_is); (case c11 => k_is); (case k11 => k_is)
    (case a12 => k_is); (case l12 => k_is); (case c12 => k_is); (case k12 => k_is)
    (case a13 => k_is); (case l13 => k_is); (case c13 => k_is); (case k13 => k_is)
    (case a14 => k_is); (case l14 => k_is); (case c14 => k_is); (case k14 => k_is)
    (case a15 => k_is); (case l15 => k_is); (case c15 => k_is); (case k15 => k_is)
    (case a16 => k_is); (case l16 => k_is); (case c16 => k_is); (case k16 => k_is)
    (case a17 => k_is); (case l17 => k_is); (case c17 => k_is); (case k17 => k_is)
    (case z1 => k_is); (case z2 => k_is); (case z3 => k_is); (case z4 => k_is); (case z5 => k_is); (case z6 => k_is); (case z7 => k_is); (case z8 => k_is); (case z9 => k_is); (case z10 => k_is); (case z11 => k_is); (case z12 => k_is); (case z13 => k_is); (case z14 => k_is); (case z15 => k_is)
