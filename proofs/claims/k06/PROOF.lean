import PyProof.Rows.All
import Wide.All
import OpenK.AllK
import Wide.FinOn
import Lean
import PyProof.EqAt
import PyProof.EqKinds
import PyProof.TupleCall
import PySem.Challenge.RW_indexwise_k06_lengths_that_exceed
set_option Elab.async false
set_option linter.all false
set_option maxRecDepth 100000
/-! THE HAND LAYER, for ints, bools, texts, own classes, LISTS and tuples (index, slices, in, append, pop ..), calls, loops. Paste it whole ahead of your own text; what your proof does not reach may be deleted. -/
namespace L2
open PySem PySem.Spec PyProof.Rows

/-- a key: an int or a str -/
abbrev Key := Sum Int Str
def keyIs : Key → Value → Bool
  | .inl k, v => Value.isInt k v
  | .inr x, v => Value.isStrOf x v
def keyH (w : World) : Key → Int
  | .inl k => hashInt k
  | .inr x => hashStr w x
theorem keyIs_shape : ∀ {k : Key} {v : Value}, keyIs k v = true → (∃ i t, k = Sum.inl i ∧ v = Value.int i t) ∨ (∃ x t, k = Sum.inr x ∧ v = Value.str x t)
  | .inl i, v, h => by
    obtain ⟨t, e⟩ := Value.isInt_shape (k := i) (v := v) h
    exact .inl ⟨i, t, rfl, e⟩
  | .inr x, v, h => by
    obtain ⟨t, e⟩ := Value.isStrOf_shape (x := x) (v := v) h
    exact .inr ⟨x, t, rfl, e⟩
theorem keyIs_int (i : Int) (t : Tok) : keyIs (.inl i) (.int i t) = true := by simp [keyIs, Value.isInt]
theorem keyIs_str (x : Str) (t : Tok) : keyIs (.inr x) (.str x t) = true := by simp [keyIs, Value.isStrOf]
theorem key_ll (a b : Int) : decide ((Sum.inl a : Key) = Sum.inl b) = (a == b) := by
  by_cases e : a = b
  · subst e; simp
  · have h : ¬ (Sum.inl a : Key) = Sum.inl b := fun q => e (Sum.inl.inj q)
    rw [decide_eq_false h]
    exact (beq_eq_false_iff_ne.mpr e).symm
theorem key_rr (a b : Str) : decide ((Sum.inr a : Key) = Sum.inr b) = decide (a = b) := by
  by_cases e : a = b
  · subst e; simp
  · have h : ¬ (Sum.inr a : Key) = Sum.inr b := fun q => e (Sum.inr.inj q)
    rw [decide_eq_false h, decide_eq_false e]
theorem key_lr (a : Int) (b : Str) : decide ((Sum.inl a : Key) = Sum.inr b) = false := decide_eq_false (fun q => nomatch q)
theorem key_rl (a : Str) (b : Int) : decide ((Sum.inr a : Key) = Sum.inl b) = false := decide_eq_false (fun q => nomatch q)

def mixKind (prog : Program) (w : World) : PySem.KeyKind prog w Key where
  is := keyIs
  hash := keyH w
  inj := fun v a b ha hb => by
    rcases keyIs_shape ha with ⟨i, t, rfl, rfl⟩ | ⟨x, t, rfl, rfl⟩
    · rcases keyIs_shape hb with ⟨j, u, rfl, e⟩ | ⟨y, u, rfl, e⟩
      · injection e with e1 _; rw [e1]
      · exact nomatch e
    · rcases keyIs_shape hb with ⟨j, u, rfl, e⟩ | ⟨y, u, rfl, e⟩
      · exact nomatch e
      · injection e with e1 _; rw [e1]
  byValue := fun k v h => by
    rcases keyIs_shape h with ⟨i, t, rfl, rfl⟩ | ⟨x, t, rfl, rfl⟩ <;> rfl
  pyHash := fun hv h => by
    rcases keyIs_shape hv with ⟨i, t, rfl, rfl⟩ | ⟨x, t, rfl, rfl⟩
    · exact wpAny_pyHash_int h
    · exact wpAny_pyHash_str h
  eqBool := fun hu hv h => by
    rcases keyIs_shape hu with ⟨i, t, rfl, rfl⟩ | ⟨x, t, rfl, rfl⟩
    · rcases keyIs_shape hv with ⟨j, u, rfl, rfl⟩ | ⟨y, u, rfl, rfl⟩
      · rw [key_ll] at h; exact wpAny_eqBool_int h
      · rw [key_lr] at h; exact SeqAt.EqAt.int_str i t y u _ _ _ _ h
    · rcases keyIs_shape hv with ⟨j, u, rfl, rfl⟩ | ⟨y, u, rfl, rfl⟩
      · rw [key_rl] at h; exact SeqAt.EqAt.str_int x t j u _ _ _ _ h
      · rw [key_rr] at h; exact wpAny_eqBool_str h
  «strs» := fun k x t v h => by
    rcases keyIs_shape h with ⟨i, u, rfl, e⟩ | ⟨y, u, rfl, e⟩
    · exact nomatch e
    · injection e with e1 _
      subst e1
      cases v <;> rfl

theorem mixKind_int (prog : Program) (w : World) (i : Int) (t : Tok) : (mixKind prog w).is (.inl i) (.int i t) = true := keyIs_int i t
theorem mixKind_str (prog : Program) (w : World) (x : Str) (t : Tok) : (mixKind prog w).is (.inr x) (.str x t) = true := keyIs_str x t
end L2

namespace L2
open PySem PySem.Spec PyProof.Rows

/-- a value, without the heap -/
inductive V where
  | non | bl (b : Bool) | int (i : Int) | str (x : Str) | byt (b : Array UInt8) | flt (b : UInt64) | ref (a : Addr) | ty (n : String)
  deriving DecidableEq

def RelV : V → Value → Prop
  | .non, u => u = Value.none
  | .bl b, u => u = Value.bool b
  | .int i, u => ∃ t, u = Value.int i t
  | .str x, u => ∃ t, u = Value.str x t
  | .byt b, u => ∃ t, u = Value.bytes b t
  | .flt b, u => ∃ t, u = Value.float b t
  | .ref a, u => u = Value.ref a
  | .ty n, u => u = Value.type n

abbrev Vals : List V → List Value → Prop := Paired RelV
theorem Vals.length {xs : List V} {us : List Value} (r : Vals xs us) : xs.length = us.length := Paired.length r
theorem Vals.get : ∀ {xs : List V} {us : List Value} {i : Nat} {x : V}, Vals xs us → xs[i]? = some x → ∃ u, us[i]? = some u ∧ RelV x u
  | _, _, _, _, .nil, e => by simp at e
  | _, _, 0, _, .cons r _, e => by simp at e; subst e; exact ⟨_, rfl, r⟩
  | _, _, i + 1, x, .cons _ t, e => by
    obtain ⟨u, h1, h2⟩ := Vals.get (i := i) (x := x) t (by simpa using e)
    exact ⟨u, by simpa using h1, h2⟩
theorem Vals.append : ∀ {xs ys : List V} {us ws : List Value}, Vals xs us → Vals ys ws → Vals (xs ++ ys) (us ++ ws)
  | _, _, _, _, .nil, s => s
  | _, _, _, _, .cons r t, s => .cons r (Vals.append t s)
theorem Vals.take : ∀ {xs : List V} {us : List Value} (n : Nat), Vals xs us → Vals (xs.take n) (us.take n)
  | _, _, 0, _ => .nil
  | _, _, _ + 1, .nil => .nil
  | _, _, n + 1, .cons r t => .cons r (Vals.take n t)
theorem Vals.drop : ∀ {xs : List V} {us : List Value} (n : Nat), Vals xs us → Vals (xs.drop n) (us.drop n)
  | _, _, 0, r => r
  | _, _, _ + 1, .nil => .nil
  | _, _, n + 1, .cons _ t => Vals.drop n t

def RelO : Option V → Option Value → Prop
  | some v, some u => RelV v u
  | none, none => True
  | _, _ => False
def KV {κ : Type} : List (κ × V) → List (κ × Value) → Prop := Paired fun (p : κ × V) (q : κ × Value) => p.1 = q.1 ∧ RelV p.2 q.2

/-- a key of a dict (00_mix): an int or a text -/
def kV : Key → V
  | .inl i => .int i
  | .inr x => .str x

/-- what stands at a tracked address -/
inductive HO where
  /-- a list -/
  | lst (xs : List V)
  /-- a tuple (never changes) -/
  | tup (xs : List V)
  /-- a dict whose keys are ints and texts; one whose keys are tuples of ints and texts (the empty one is both) -/
  | dK (kvs : List (Key × V)) | dT (kvs : List (List Key × V))
  /-- a set of ints: its members, its size -/
  | set (S : Int → Bool) (n : Nat)
  /-- an instance of the class at C, its dict at dx, its attributes -/
  | ins (C dx : Addr) (fs : List (Str × V))
  /-- the dict of the instance at x -/
  | own (x : Addr)
  /-- the dict of an exception -/
  | xd (fs : List (Str × V))
  /-- a bound method, f of x -/
  | met (f x : Addr)
  /-- a range object lo, lo + 1, .. below hi -/
  | rng (lo hi : Int)
  /-- a thing that is known to the object (the script; a dict while a loop walks it): read, never written while it is so -/
  | frz (o : Obj) (u : HO)
  /-- a code object's table -/
  | tbl (ps : Array Value)
  /-- any other thing, by what is true of its one object (a def of one's own: SetO a S n := HO.ext fun h => ..) -/
  | ext (φ : Heap → Prop)

abbrev Hp := Addr → Option HO
def upd (H : Hp) (a : Addr) (o : HO) : Hp := fun b => if b = a then some o else H b
theorem upd_same {H : Hp} {a : Addr} {o : HO} : upd H a o a = some o := by unfold upd; rw [if_pos rfl]
theorem upd_ne {H : Hp} {a b : Addr} {o : HO} (h : b ≠ a) : upd H a o b = H b := by unfold upd; rw [if_neg h]
theorem upd_upd {H : Hp} {a : Addr} {o u : HO} : upd (upd H a o) a u = upd H a u := by
  funext b; unfold upd; split <;> rfl
/-- two objects of different content stand apart -/
theorem ne_of {H : Hp} {a b : Addr} {o u : HO} (h : H a = some o) (h' : H b = some u) (d : o ≠ u) : a ≠ b := by
  intro e; subst e; rw [h] at h'; exact d (Option.some.inj h')
theorem ne_of_none {H : Hp} {a b : Addr} {o : HO} (h : H a = some o) (h' : H b = none) : a ≠ b := by
  intro e; subst e; rw [h] at h'; cases h'

/-- no dict of its own -/
def NoD (h : Heap) (a : Addr) : Prop := ∃ o, h.get? a = some o ∧ o.dict = none
theorem NoD.new (h : Heap) {o : Obj} (e : o.dict = none) (f : o.isFreed = false := by rfl) : NoD (h.push o) h.objs.size := ⟨_, Heap.get?_push_size _ f, e⟩
section
variable (P : Program) (w : World)
def ObjOk (H : Hp) (h : Heap) (a : Addr) : HO → Prop
  | .lst xs => xs.length ≤ sizeLine ∧ ∃ (its : List Value) (n : Nat), Vals xs its ∧ h.get? a = some { cls := .type "list", data := .seq its.toArray n }
  | .tup xs => xs.length ≤ sizeLine ∧ ∃ its : List Value, Vals xs its ∧ IsTup h a its.toArray ∧ NoD h a
  | .dK kvs => kvs.length ≤ sizeLine ∧ (a == sysModules) = false ∧ ∃ vs, KV kvs vs ∧ h.DictOf (mixKind P w) a vs
  | .dT kvs => kvs.length ≤ sizeLine ∧ (a == sysModules) = false ∧ ∃ xs : List (List Key × Addr × Value),
      Paired (fun (p : List Key × V) (q : List Key × Addr × Value) => p.1 = q.1 ∧ H q.2.1 = some (.tup (p.1.map kV)) ∧ RelV p.2 q.2.2) kvs xs ∧
      ∃ o es ep, h.get? a = some o ∧ o.ExactDict ∧ o.data = .dict es ep ∧ es.toList = xs.map (entryOfKey (tupleKind (mixKind P w))) ∧ (xs.map (·.1)).Nodup
  | .set S n => h.SetOf (intKind P w) a S n
  | .ins C dx fs => H dx = some (.own a) ∧ fs.length ≤ 1000 ∧ dx ≠ a ∧ h.get? a = some (PySem.W.instObj C dx) ∧
      ∃ mA, h.Ns1 dx mA ∧ (∀ f, RelO (fs.lookup f) (mA f)) ∧ PySem.Within mA (fs.map (·.1))
  | .own _ => ∃ o, h.get? a = some o
  | .xd fs => ∃ mA, h.Ns1 a mA ∧ ∀ f, RelO (fs.lookup f) (mA f)
  | .rng lo hi => ∃ t u v, h.get? a = some { cls := .type "range", data := .fields #[.int lo t, .int hi u, .int 1 v] }
  | .frz o u => h.get? a = some o ∧ ObjOk H h a u
  | .tbl ps => h.get? a = some { cls := .none, data := .fields ps }
  | .met f x => h.get? a = some (PySem.W.methodObj (.ref f) (.ref x))
  | .ext φ => φ h ∧ (∃ o, h.get? a = some o) ∧ ∀ h1 h2 : Heap, φ h1 → (∀ o, h1.get? a = some o → h2.get? a = some o) → φ h2
/-- the abstract heap is held -/
def HOk (H : Hp) (h : Heap) : Prop := ∀ a o, H a = some o → ObjOk P w H h a o
end

section
variable {P : Program} {w : World} {H H' : Hp} {h h' : Heap} {a : Addr} {o : HO}
theorem ObjOk.lt (x : ObjOk P w H h a o) : a < h.objs.size := by
  cases o with
  | lst xs => obtain ⟨_, _, _, _, e⟩ := x; exact Heap.lt_size e
  | tup xs => obtain ⟨_, _, _, p⟩ := x; exact p.1.lt
  | dK kvs => obtain ⟨_, _, _, _, o, _, _, e, _⟩ := x; exact Heap.lt_size e
  | dT kvs => obtain ⟨_, _, _, _, o, _, _, e, _⟩ := x; exact Heap.lt_size e
  | set S n => obtain ⟨o, _, _, _, e, _⟩ := x; exact Heap.lt_size e
  | ins C dx fs => obtain ⟨_, _, _, e, _⟩ := x; exact Heap.lt_size e
  | own y => obtain ⟨_, e⟩ := x; exact Heap.lt_size e
  | xd fs => obtain ⟨_, ⟨_, _, _, e, _⟩, _⟩ := x; exact Heap.lt_size e
  | rng lo hi => obtain ⟨_, _, _, e⟩ := x; exact Heap.lt_size e
  | frz ob u => obtain ⟨e, _⟩ := x; exact Heap.lt_size e
  | tbl ps => exact Heap.lt_size (show h.get? a = some _ from x)
  | met f y => exact Heap.lt_size (show h.get? a = some _ from x)
  | ext φ => obtain ⟨_, ⟨_, e⟩, _⟩ := x; exact Heap.lt_size e
theorem Paired.mapP {α β : Type} {F G : α → β → Prop} : ∀ {l₁ : List α} {l₂ : List β}, Paired F l₁ l₂ → (∀ a b, F a b → G a b) → Paired G l₁ l₂
  | _, _, .nil, _ => .nil
  | _, _, .cons r t, f => .cons (f _ _ r) (Paired.mapP t f)
/-- what an object's description leans on: its own object, its own dict, the tuples -/
theorem ObjOk.stay (x : ObjOk P w H h a o) (k : ∀ b u, (b = a ∨ H b = some (.own a)) → h.get? b = some u → h'.get? b = some u)
    (ho : ∀ b, H b = some (.own a) → H' b = some (.own a)) (ht : ∀ b xs, H b = some (.tup xs) → H' b = some (.tup xs)) : ObjOk P w H' h' a o := by
  induction o with
  | lst xs => obtain ⟨z, its, n, r, e⟩ := x; exact ⟨z, its, n, r, k _ _ (.inl rfl) e⟩
  | tup xs => obtain ⟨z, its, r, ⟨ob, e, c⟩, od, e2, c2⟩ := x; exact ⟨z, its, r, ⟨ob, k _ _ (.inl rfl) e, c⟩, od, k _ _ (.inl rfl) e2, c2⟩
  | dK kvs => obtain ⟨z, y, vs, r, ob, es, ep, e, c⟩ := x; exact ⟨z, y, vs, r, ob, es, ep, k _ _ (.inl rfl) e, c⟩
  | dT kvs =>
    obtain ⟨z, y, xs, r, ob, es, ep, e, c⟩ := x
    exact ⟨z, y, xs, Paired.mapP r fun p q z => ⟨z.1, ht _ _ z.2.1, z.2.2⟩, ob, es, ep, k _ _ (.inl rfl) e, c⟩
  | set S n => obtain ⟨ob, es, ep, t, e, c⟩ := x; exact ⟨ob, es, ep, t, k _ _ (.inl rfl) e, c⟩
  | ins C dx fs =>
    obtain ⟨d, z, ne, e, mA, ⟨od, es, ep, e2, c⟩, r⟩ := x
    exact ⟨ho _ d, z, ne, k _ _ (.inl rfl) e, mA, ⟨od, es, ep, k _ _ (.inr d) e2, c⟩, r⟩
  | own y => obtain ⟨ob, e⟩ := x; exact ⟨ob, k _ _ (.inl rfl) e⟩
  | xd fs => obtain ⟨mA, ⟨od, es, ep, e, c⟩, r⟩ := x; exact ⟨mA, ⟨od, es, ep, k _ _ (.inl rfl) e, c⟩, r⟩
  | rng lo hi => obtain ⟨t, u, v, e⟩ := x; exact ⟨t, u, v, k _ _ (.inl rfl) e⟩
  | frz ob u ih => obtain ⟨e, q⟩ := x; exact ⟨k _ _ (.inl rfl) e, ih q⟩
  | tbl ps =>
    have e : h.get? a = some { cls := .none, data := .fields ps } := x
    show h'.get? a = some { cls := .none, data := .fields ps }
    exact k a _ (.inl rfl) e
  | met f y =>
    have e : h.get? a = some (PySem.W.methodObj (.ref f) (.ref y)) := x
    show h'.get? a = some (PySem.W.methodObj (.ref f) (.ref y))
    exact k a _ (.inl rfl) e
  | ext φ => obtain ⟨p, ⟨o, e⟩, st⟩ := x; exact ⟨st _ _ p fun o q => k _ _ (.inl rfl) q, ⟨o, k _ _ (.inl rfl) e⟩, st⟩
theorem HOk.lt (x : HOk P w H h) (e : H a = some o) : a < h.objs.size := (x a o e).lt
theorem HOk.fresh (x : HOk P w H h) (e : h.objs.size ≤ a) : H a = none := by
  cases q : H a with
  | none => rfl
  | some u => exact absurd (Nat.lt_of_lt_of_le (x.lt q) e) (Nat.lt_irrefl _)
/-- every object of the heap is kept -/
theorem HOk.kept (x : HOk P w H h) (k : ∀ b u, h.get? b = some u → h'.get? b = some u) : HOk P w H h' := fun a o e =>
  (x a o e).stay (fun b u _ q => k b u q) (fun _ q => q) fun _ _ q => q
/-- a new object is laid and tracked -/
theorem HOk.laid (x : HOk P w H h) (k : ∀ b u, h.get? b = some u → h'.get? b = some u) (hp : h.objs.size ≤ a) (new : ObjOk P w (upd H a o) h' a o) : HOk P w (upd H a o) h' := fun b u e => by
  have hn := x.fresh hp
  by_cases hb : b = a
  · subst hb; rw [upd_same] at e; cases e; exact new
  · rw [upd_ne hb] at e
    exact (x b u e).stay (fun c v _ q => k c v q) (fun c q => by rw [upd_ne (ne_of_none q hn)]; exact q) fun c xs q => by rw [upd_ne (ne_of_none q hn)]; exact q
end

/-- what may be read as u: it is u, or a known u -/
def Rd (H : Hp) (a : Addr) (u : HO) : Prop := H a = some u ∨ ∃ o, H a = some (.frz o u)
theorem Rd.ok {P : Program} {w : World} {H : Hp} {h : Heap} {a : Addr} {u : HO} (r : Rd H a u) (x : HOk P w H h) : ObjOk P w H h a u := by
  rcases r with r | ⟨o, r⟩
  · exact x a u r
  · obtain ⟨_, q⟩ := x a _ r
    exact q
/-- what may be written -/
def Mut : Option HO → Prop
  | some (.lst _) => True
  | some (.dK _) => True
  | some (.dT _) => True
  | some (.set _ _) => True
  | some (.ins _ _ _) => True
  | some (.ext _) => True
  | _ => False
section
variable {P : Program} {w : World} {H : Hp} {h h' : Heap} {x e : Addr} {o' : HO}
/-- the object at e is changed: x itself, or the dict of the instance x -/
theorem HOk.write (ok : HOk P w H h) (mu : Mut (H x)) (he : e = x ∨ H e = some (.own x)) (k : ∀ b u, b ≠ e → h.get? b = some u → h'.get? b = some u) (heo : ∃ u, h'.get? e = some u)
    (new : ObjOk P w (upd H x o') h' x o') : HOk P w (upd H x o') h' := fun b u q => by
  have nown : ∀ c y, H c = some (.own y) → c ≠ x := fun c y r z => by subst z; rw [r] at mu; exact mu
  have ntup : ∀ c xs, H c = some (.tup xs) → c ≠ x := fun c xs r z => by subst z; rw [r] at mu; exact mu
  by_cases hb : b = x
  · subst hb; rw [upd_same] at q; cases q; exact new
  · rw [upd_ne hb] at q
    by_cases hbe : b = e
    · have q' : H b = some (.own x) := by
        rcases he with z | z
        · exact absurd (hbe.trans z) hb
        · rw [hbe]; exact z
      rw [q] at q'; cases q'
      obtain ⟨v, hv⟩ := heo
      exact ⟨v, by rw [hbe]; exact hv⟩
    · refine (ok b u q).stay (fun c v hc r => k c v ?_ r) (fun c r => by rw [upd_ne (nown c b r)]; exact r) fun c xs r => by rw [upd_ne (ntup c xs r)]; exact r
      rcases hc with rfl | hc
      · exact hbe
      · rintro rfl
        rcases he with z | z
        · exact nown c b hc z
        · rw [hc] at z; cases z; exact hb rfl
end

/-! ### kept unless tracked; of the frames at fs (the callers') the slots may change (an exception that passes writes there); of the records at ex (iterators) nothing is said -/
structure Un (fs ex : List Addr) (H H' : Hp) (h h' : Heap) : Prop where
  keep : ∀ b o, h.get? b = some o → H b = none → b ∉ fs → b ∉ ex → h'.get? b = some o
  slot : ∀ b o, h.get? b = some o → H b = none → b ∈ fs → b ∉ ex → ∃ sl, h'.get? b = some { o with slots := sl }
  free : ∀ b o, h.get? b = some o → H b = none → b ∉ ex → H' b = none
  there : ∀ b o, h.get? b = some o → b ∉ ex → ∃ o', h'.get? b = some o'
  tups : ∀ b xs, H b = some (.tup xs) → H' b = some (.tup xs)
  frzs : ∀ b o u, H b = some (.frz o u) → H' b = some (.frz o u)
  tbls : ∀ b ps, H b = some (.tbl ps) → ∃ more, H' b = some (.tbl (ps ++ more))
section
variable {fs fs' ex ex' : List Addr} {H H1 H2 : Hp} {h h1 h2 h' : Heap} {a x e : Addr} {o : HO}
theorem Un.any (u : Un fs ex H H1 h h1) {b : Addr} {ob : Obj} (q : h.get? b = some ob) (n : H b = none) (hx : b ∉ ex) : ∃ sl, h1.get? b = some { ob with slots := sl } := by
  by_cases hb : b ∈ fs
  · exact u.slot b ob q n hb hx
  · exact ⟨ob.slots, u.keep b ob q n hb hx⟩
theorem Un.kept (k : ∀ b u, h.get? b = some u → h'.get? b = some u) : Un fs ex H H h h' :=
  ⟨fun b ob q _ _ _ => k b ob q, fun b ob q _ _ _ => ⟨ob.slots, k b ob q⟩, fun _ _ _ n _ => n, fun b ob q _ => ⟨ob, k b ob q⟩, fun _ _ q => q, fun _ _ _ q => q, fun _ ps q => ⟨#[], by rw [q]; simp⟩⟩
theorem Un.refl : Un fs ex H H h h := Un.kept fun _ _ q => q
theorem Un.laid (k : ∀ b u, h.get? b = some u → h'.get? b = some u) (hp : h.objs.size ≤ a) (hn : H a = none) : Un fs ex H (upd H a o) h h' where
  keep := fun b u q _ _ _ => k b u q
  slot := fun b u q _ _ _ => ⟨u.slots, k b u q⟩
  free := fun b u q n _ => by rw [upd_ne (Nat.ne_of_lt (Nat.lt_of_lt_of_le (Heap.lt_size q) hp))]; exact n
  there := fun b u q _ => ⟨u, k b u q⟩
  tups := fun b xs q => by rw [upd_ne (ne_of_none q hn)]; exact q
  frzs := fun b u xs q => by rw [upd_ne (ne_of_none q hn)]; exact q
  tbls := fun b ps q => ⟨#[], by rw [upd_ne (ne_of_none q hn), q]; simp⟩
theorem Un.write (mu : Mut (H x)) (he : e = x ∨ H e = some (.own x)) (k : ∀ b u, b ≠ e → h.get? b = some u → h'.get? b = some u) (heo : ∃ u, h'.get? e = some u) : Un fs ex H (upd H x o) h h' := by
  have hx : ∀ b, H b = none → b ≠ x := fun b n z => by subst z; rw [n] at mu; exact mu
  have hb : ∀ b, H b = none → b ≠ e := fun b n z => by
    subst z
    rcases he with r | r
    · exact hx b n r
    · rw [n] at r; cases r
  have hm : ∀ b u, H b = some u → ¬ Mut (some u) → b ≠ x := fun b u q nm z => by subst z; rw [q] at mu; exact nm mu
  refine ⟨fun b u q n _ _ => k b u (hb b n) q, fun b u q n _ _ => ⟨u.slots, k b u (hb b n) q⟩, fun b u q n _ => by rw [upd_ne (hx b n)]; exact n, fun b u q _ => ?_,
    fun b xs q => by rw [upd_ne (hm b _ q fun z => z)]; exact q, fun b u xs q => by rw [upd_ne (hm b _ q fun z => z)]; exact q, fun b ps q => ⟨#[], by rw [upd_ne (hm b _ q fun z => z), q]; simp⟩⟩
  by_cases hbe : b = e
  · subst hbe; exact heo
  · exact ⟨u, k b u hbe q⟩
end

/-! ### the heap without what is tracked -/
def trk (h : Heap) (H : Hp) : List Addr := (List.range h.objs.size).filter fun a => (H a).isSome
def hidT (h : Heap) (H : Hp) : Heap := PySem.W.hideAll h (trk h H)
theorem hidT_size (h : Heap) (H : Hp) : (hidT h H).objs.size = h.objs.size := PySem.W.hideAll_size _ _
theorem hidT_get {h : Heap} {H : Hp} {b : Addr} {o : Obj} (e : h.get? b = some o) (n : H b = none) : (hidT h H).get? b = some o :=
  PySem.W.hideAll_get _ e fun hm => by
    have q : (H b).isSome = true := (List.mem_filter.mp hm).2
    rw [n] at q; simp at q
theorem of_hidT {h : Heap} {H : Hp} {b : Addr} {o : Obj} (e : (hidT h H).get? b = some o) : h.get? b = some o ∧ H b = none := by
  have e' : h.get? b = some o := PySem.W.of_hideAll (trk h H) e
  refine ⟨e', ?_⟩
  cases q : H b with
  | none => rfl
  | some x =>
    have hm : b ∈ trk h H := List.mem_filter.mpr ⟨List.mem_range.mpr (Heap.lt_size e'), by simp [q]⟩
    have z : (hidT h H).get? b = none := PySem.W.hideAll_none (trk h H) hm
    rw [z] at e; cases e

/-! ### OpenK's ledger, filled with every new object but one -/
def allNews (g h : Heap) (L : Addr) : List (Addr × Obj) := (List.range h.objs.size).filterMap fun a => if a = L ∨ (g.get? a).isSome = true then none else (h.get? a).map fun o => (a, o)
theorem mem_allNews {g h : Heap} {L a : Addr} {o : Obj} (h1 : a ≠ L) (h2 : g.get? a = none) (h3 : h.get? a = some o) : (a, o) ∈ allNews g h L :=
  List.mem_filterMap.mpr ⟨a, List.mem_range.mpr (Heap.lt_size h3), by simp [h1, h2, h3]⟩
theorem of_mem_allNews {g h : Heap} {L : Addr} {p : Addr × Obj} (hp : p ∈ allNews g h L) : p.1 ≠ L ∧ g.get? p.1 = none ∧ h.get? p.1 = some p.2 := by
  obtain ⟨b, _, e⟩ := List.mem_filterMap.mp hp
  split at e
  · cases e
  · rename_i hn
    cases q : h.get? b with
    | none => rw [q] at e; simp at e
    | some u =>
      rw [q] at e
      simp only [Option.map_some, Option.some.injEq] at e
      subst e
      refine ⟨fun z => hn (.inl z), ?_, q⟩
      show g.get? b = none
      cases r : g.get? b with
      | none => rfl
      | some v => exact (hn (.inr (by simp [r]))).elim
theorem news_all {g h : Heap} {L : Addr} : News g L h (allNews g h L) := fun p hp => let ⟨a, b, c⟩ := of_mem_allNews hp; ⟨c, a, b⟩
end L2

namespace L2
open PySem PySem.Spec PyProof.Rows

/-- the module's facts, over the base: the heap at the law's entry without what is tracked there -/
structure Mod (K : PySem.W.Frag) (mg : Str → Option Value) (base : Heap) : Prop where
  kin : K.In base
  glob : base.Ns mainGlobals mg
  blt : ∃ mb, base.Ns builtinsNs mb ∧ ∀ x : Str, x ≠ "__name__" → mb x = bootBuiltins x
  nolimit : base.NoLimit

/-- the context: a def's body (or a comprehension's block) running. base: fixed through the whole law; s₀, H₀: the entry; outer: the frames whose slots others may change (a def's callers); stack: all frames that run;
   ex: iterators that were made ahead of the entry and are walked here (a comprehension's); fn: the names whose cells were made at the entry (a def: all; a comprehension's block: its own); calm: not within an except suite; pn: pins that every state bears; xe: what is wanted of an exception that leaves the code -/
structure Cx where
  prog : Program
  w : World
  K : PySem.W.Frag
  mg : Str → Option Value
  base : Heap
  A : Around
  N : List Str
  s₀ : Shared
  H₀ : Hp
  env : Env
  outer : List Env
  stack : List Env
  ex : List Addr
  fn : Str → Bool
  calm : Bool
  pn : List (Addr × Obj)
  xe : Value → Shared → Prop
/-- the callers' frames -/
def frs (l : List Env) : List Addr := l.filterMap (·.frame)
abbrev Cx.fs (X : Cx) : List Addr := frs X.outer

def Vis (sc : Scope) (x : Str) : Prop := sc.names.lookup x = some .local ∨ sc.names.lookup x = some .cell ∨ sc.names.lookup x = some .free
def Loc (sc : Scope) (x : Str) : Prop := sc.names.lookup x = some .local ∨ sc.names.lookup x = some .cell
def Look (env : Env) (h : Heap) (m : Str → Option Value) (x : Str) (u : Value) : Prop :=
  (env.kindOf x = some .local ∧ m x = some u) ∨ ((env.kindOf x = some .cell ∨ env.kindOf x = some .free) ∧ ∃ c, env.cells.lookup x = some c ∧ h.IsCell c (some u))

structure Cx.Ok (X : Cx) : Prop where
  mod : Mod X.K X.mg X.base
  kind : X.env.scope.kind = .function
  glob : X.env.globals = mainGlobals
  blt : X.env.builtins = builtinsNs
  above : X.s₀.heap.objs.size ≤ X.env.locals
  inj : ∀ x y c, X.env.cells.lookup x = some c → X.env.cells.lookup y = some c → x = y
  has : ∀ x, (X.env.kindOf x = some .cell ∨ X.env.kindOf x = some .free) → ∃ c, X.env.cells.lookup x = some c
  cab : ∀ x c, X.fn x = true → X.env.cells.lookup x = some c → X.s₀.heap.objs.size ≤ c
  hd : X.calm = true → X.A.handled = none
  frames : X.A.frames = some X.stack
  stk : X.stack = X.outer ∨ (X.stack = X.env :: X.outer ∧ X.env.frame = some X.env.locals)
  exf : ∀ b ∈ X.ex, b ≠ X.env.locals ∧ ∀ x c, X.env.cells.lookup x = some c → c ≠ b
  bs : ∀ b o, X.base.get? b = some o → X.s₀.heap.get? b = some o ∧ X.H₀ b = none
  bsz : X.base.objs.size ≤ X.s₀.heap.objs.size
  noex : ∀ b o, X.base.get? b = some o → b ∉ X.ex
  exfs : ∀ b ∈ X.ex, b ∉ X.fs
  funs : X.s₀.heap.FunFrames X.base X.outer
  frf : ∀ b ∈ X.fs, X.H₀ b = none

structure Inv (X : Cx) (pins : List (Addr × Obj)) (σ : List (Option V)) (H : Hp) (s : Shared) : Prop where
  ok : X.Ok
  os : s.os = X.s₀.os
  bare : AllBare s.gens
  base : Un X.fs X.ex X.H₀ H X.s₀.heap s.heap
  loc : ∃ m, s.heap.Ns X.env.locals m ∧ ∀ (i : Nat) (x : Str) (v : V), X.N[i]? = some x → σ[i]? = some (some v) → Vis X.env.scope x → ∃ u, RelV v u ∧ Look X.env s.heap m x u
  cell : ∀ x c, X.env.cells.lookup x = some c → ∃ v, s.heap.IsCell c v
  free : H X.env.locals = none
  freeC : ∀ x c, X.env.cells.lookup x = some c → H c = none
  pin : ∀ p ∈ X.pn ++ pins, s.heap.get? p.1 = some p.2 ∧ H p.1 = none ∧ p.1 ≠ X.env.locals ∧ p.1 ∉ X.fs ∧ ∀ v, p.2.data ≠ .cell v
  hok : HOk X.prog X.w H s.heap
  len : σ.length = X.N.length

section
variable {X : Cx} {pins : List (Addr × Obj)} {σ : List (Option V)} {H H' : Hp} {s : Shared} {h' : Heap}

theorem Cx.Ok.nofr (ok : X.Ok) {b : Addr} {o : Obj} (e : X.base.get? b = some o) : b ∉ X.fs := fun hb => by
  have := (ok.funs.mem hb).1
  rw [e] at this; cases this
theorem Inv.bs (I : Inv X pins σ H s) : ∀ b o, X.base.get? b = some o → s.heap.get? b = some o ∧ H b = none := fun b o e =>
  ⟨I.base.keep b o (I.ok.bs b o e).1 (I.ok.bs b o e).2 (I.ok.nofr e) (I.ok.noex b o e), I.base.free b o (I.ok.bs b o e).1 (I.ok.bs b o e).2 (I.ok.noex b o e)⟩
theorem Inv.bk (I : Inv X pins σ H s) : ∀ b o, X.base.get? b = some o → s.heap.get? b = some o := fun b o e => (I.bs b o e).1
theorem Inv.mod (I : Inv X pins σ H s) : Mod X.K X.mg X.base := I.ok.mod
theorem Inv.kIn (I : Inv X pins σ H s) : X.K.In s.heap := I.ok.mod.kin.keeps I.bk
theorem Inv.lt (I : Inv X pins σ H s) : X.env.locals < s.heap.objs.size := let ⟨_, hn, _⟩ := I.loc; hn.lt
theorem Inv.sz (I : Inv X pins σ H s) : X.s₀.heap.objs.size ≤ s.heap.objs.size := Nat.le_trans I.ok.above (Nat.le_of_lt I.lt)
theorem Inv.nofs (I : Inv X pins σ H s) {a : Addr} (h : s.heap.objs.size ≤ a) : a ∉ X.fs := fun hb => by
  obtain ⟨_, o, ho, _⟩ := I.ok.funs.mem hb
  exact absurd (Nat.lt_of_lt_of_le (Heap.lt_size ho) (Nat.le_trans I.sz h)) (Nat.lt_irrefl _)
theorem Inv.cne (I : Inv X pins σ H s) : ∀ x c, X.env.cells.lookup x = some c → c ≠ X.env.locals := fun x c e z => by
  obtain ⟨v, o, ho, hd⟩ := I.cell x c e
  obtain ⟨m, ⟨o', es, ep, ho', hd', _⟩, _⟩ := I.loc
  rw [z, ho'] at ho; cases ho; rw [hd'] at hd; cases hd
theorem Inv.funs (I : Inv X pins σ H s) : s.heap.FunFrames X.base X.outer := by
  have all : ∀ (l : List Env), (∀ b ∈ frs l, b ∈ X.fs) → X.s₀.heap.FunFrames X.base l → s.heap.FunFrames X.base l := by
    intro l
    induction l with
    | nil => intro _ _; trivial
    | cons env r ih =>
      intro hs hl
      obtain ⟨hk, ⟨L, o, hf, hn, ho, hd⟩, hr⟩ := hl
      have hL : L ∈ X.fs := hs L (by unfold frs; rw [List.filterMap_cons, hf]; exact List.mem_cons_self)
      obtain ⟨sl, e⟩ := I.base.slot L o ho (I.ok.frf L hL) hL fun z => I.ok.exfs L z hL
      exact ⟨hk, ⟨L, _, hf, hn, e, hd⟩, ih (fun b hb => hs b (by unfold frs; rw [List.filterMap_cons, hf]; exact List.mem_cons_of_mem _ hb)) hr⟩
  exact all X.outer (fun _ hb => hb) I.ok.funs

/-- the frames that run, for a call -/
theorem Inv.stack (I : Inv X pins σ H s) : s.heap.FunFrames X.base X.stack := by
  rcases I.ok.stk with e | ⟨e, hf⟩
  · rw [e]; exact I.funs
  · rw [e]
    obtain ⟨m, hn, _⟩ := I.loc
    refine .cons (by rw [I.ok.kind]; decide) hf hn ?_ I.funs
    exact Heap.get?_none_of_le (Nat.le_trans I.ok.bsz I.ok.above)
theorem Inv.stkSub (I : Inv X pins σ H s) : ∀ b ∈ frs X.stack, b ∈ X.env.locals :: X.fs := fun b hb => by
  rcases I.ok.stk with e | ⟨e, hf⟩
  · rw [e] at hb; exact List.mem_cons_of_mem _ hb
  · rw [e] at hb
    unfold frs at hb
    rw [List.filterMap_cons, hf] at hb
    exact hb
theorem Inv.stkFree (I : Inv X pins σ H s) : ∀ b ∈ frs X.stack, H b = none := fun b hb => by
  rcases List.mem_cons.mp (I.stkSub b hb) with e | hb
  · rw [e]; exact I.free
  · obtain ⟨_, o, ho, _⟩ := I.ok.funs.mem hb
    exact I.base.free b o ho (I.ok.frf b hb) fun z => I.ok.exfs b z hb

/-- THE STEP: the untracked objects but the frame and the records at ch are kept (the callers' frames up to slots), the frame's map is kept, the new abstract heap is held -/
theorem Inv.step {g' : Array GenState} {t' : Nat} {d' : Drawn} {ch : List Addr} (I : Inv X pins σ H s)
    (hch : ∀ b ∈ ch, (b ∈ X.ex ∨ X.s₀.heap.objs.size ≤ b) ∧ b ≠ X.env.locals ∧ (∀ x c, X.env.cells.lookup x = some c → c ≠ b) ∧ ∀ p ∈ X.pn ++ pins, p.1 ≠ b)
    (keep : ∀ b o, b ≠ X.env.locals → b ∉ X.fs → b ∉ ch → s.heap.get? b = some o → H b = none → h'.get? b = some o)
    (slot : ∀ b o, b ≠ X.env.locals → b ∈ X.fs → b ∉ ch → s.heap.get? b = some o → H b = none → ∃ sl, h'.get? b = some { o with slots := sl }) (free : ∀ b o, b ∉ ch → s.heap.get? b = some o → H b = none → H' b = none)
    (there : ∀ b o, b ∉ ch → s.heap.get? b = some o → ∃ o', h'.get? b = some o')
    (tups : ∀ b xs, H b = some (.tup xs) → H' b = some (.tup xs)) (frzs : ∀ b o u, H b = some (.frz o u) → H' b = some (.frz o u)) (tbls : ∀ b ps, H b = some (.tbl ps) → ∃ more, H' b = some (.tbl (ps ++ more)))
    (ns : ∀ m, s.heap.Ns X.env.locals m → h'.Ns X.env.locals m) (hok : HOk X.prog X.w H' h') (hg : AllBare g') :
    Inv X pins σ H' { s with heap := h', gens := g', drawn := d', toks := t' } := by
  have neL : ∀ b o, X.s₀.heap.get? b = some o → b ≠ X.env.locals := fun b o e => Nat.ne_of_lt (Nat.lt_of_lt_of_le (Heap.lt_size e) I.ok.above)
  have neC : ∀ b o, X.s₀.heap.get? b = some o → b ∉ X.ex → b ∉ ch := fun b o e hx hb => by
    rcases (hch b hb).1 with z | z
    · exact hx z
    · exact absurd (Nat.lt_of_lt_of_le (Heap.lt_size e) z) (Nat.lt_irrefl _)
  have cellK : ∀ x c, X.env.cells.lookup x = some c → ∀ v, s.heap.IsCell c v → h'.IsCell c v := fun x c e v ⟨o, ho, hd⟩ => by
    have nch : c ∉ ch := fun z => (hch c z).2.2.1 x c e rfl
    by_cases hc : c ∈ X.fs
    · obtain ⟨sl, q⟩ := slot c o (I.cne x c e) hc nch ho (I.freeC x c e)
      exact ⟨_, q, hd⟩
    · exact ⟨o, keep c o (I.cne x c e) hc nch ho (I.freeC x c e), hd⟩
  refine ⟨I.ok, I.os, hg, ⟨fun b o e n hb hx => ?_, fun b o e n hb hx => ?_, fun b o e n hx => ?_, fun b o e hx => ?_, fun b xs e => tups b xs (I.base.tups b xs e), fun b o xs e => frzs b o xs (I.base.frzs b o xs e), fun b ps e => ?_⟩, ?_, fun x c e => ?_, ?_, fun x c e => ?_, fun p hp => ?_, hok, I.len⟩
  · exact keep b o (neL b o e) hb (neC b o e hx) (I.base.keep b o e n hb hx) (I.base.free b o e n hx)
  · obtain ⟨sl, e1⟩ := I.base.slot b o e n hb hx
    obtain ⟨sl', e2⟩ := slot b _ (neL b o e) hb (neC b o e hx) e1 (I.base.free b o e n hx)
    exact ⟨sl', e2⟩
  · obtain ⟨o', e1⟩ := I.base.there b o e hx
    exact free b o' (neC b o e hx) e1 (I.base.free b o e n hx)
  · obtain ⟨o', e1⟩ := I.base.there b o e hx
    exact there b o' (neC b o e hx) e1
  · obtain ⟨m1, e1⟩ := I.base.tbls b ps e
    obtain ⟨m2, e2⟩ := tbls b _ e1
    exact ⟨m1 ++ m2, by rw [e2, Array.append_assoc]⟩
  · obtain ⟨m, hn, hl⟩ := I.loc
    refine ⟨m, ns m hn, fun i x v e1 e2 e3 => ?_⟩
    obtain ⟨u, r, l⟩ := hl i x v e1 e2 e3
    refine ⟨u, r, ?_⟩
    rcases l with l | ⟨k, c, e, z⟩
    · exact .inl l
    · exact .inr ⟨k, c, e, cellK x c e _ z⟩
  · obtain ⟨v, z⟩ := I.cell x c e
    exact ⟨v, cellK x c e v z⟩
  · obtain ⟨m, ⟨o, _, _, ho, _⟩, _⟩ := I.loc
    exact free _ o (fun z => (hch _ z).2.1 rfl) ho I.free
  · obtain ⟨v, o, ho, hd⟩ := I.cell x c e
    exact free c o (fun z => (hch c z).2.2.1 x c e rfl) ho (I.freeC x c e)
  · obtain ⟨e, n, ne, nf, d⟩ := I.pin p hp
    have nch : p.1 ∉ ch := fun z => (hch p.1 z).2.2.2 p hp rfl
    exact ⟨keep p.1 p.2 ne nf nch e n, free p.1 p.2 nch e n, ne, nf, d⟩
/-- .. where the frame's own object is kept too -/
theorem Inv.un {t' : Nat} (I : Inv X pins σ H s) (u : Un X.fs [] H H' s.heap h') (hok : HOk X.prog X.w H' h') : Inv X pins σ H' { s with heap := h', toks := t' } := by
  obtain ⟨m, ⟨o, es, ep, ho, r⟩, _⟩ := id I.loc
  obtain ⟨sl, hL⟩ := u.any ho I.free (by simp)
  exact I.step (g' := s.gens) (d' := s.drawn) (ch := []) (fun _ z => nomatch z) (fun b o _ hb _ e n => u.keep b o e n hb (by simp)) (fun b o _ hb _ e n => u.slot b o e n hb (by simp)) (fun b o _ e n => u.free b o e n (by simp)) (fun b o _ e => u.there b o e (by simp)) u.tups u.frzs u.tbls (fun m' hm => by
    obtain ⟨o', es', ep', ho', r'⟩ := hm
    rw [ho] at ho'; cases ho'
    exact ⟨_, es', ep', hL, r'⟩) hok I.bare
/-- behind a call (or a comprehension's block): the slots of this frame may have changed too, the records at ch may have turned -/
theorem Inv.call {g' : Array GenState} {t' : Nat} {d' : Drawn} {ch : List Addr} (I : Inv X pins σ H s) (u : Un (frs X.stack) ch H H' s.heap h') (hok : HOk X.prog X.w H' h') (hg : AllBare g')
    (hch : ∀ b ∈ ch, (b ∈ X.ex ∨ X.s₀.heap.objs.size ≤ b) ∧ b ≠ X.env.locals ∧ (∀ x c, X.env.cells.lookup x = some c → c ≠ b) ∧ ∀ p ∈ X.pn ++ pins, p.1 ≠ b) :
    Inv X pins σ H' { s with heap := h', gens := g', drawn := d', toks := t' } := by
  obtain ⟨m, ⟨o, es, ep, ho, r⟩, _⟩ := id I.loc
  obtain ⟨sl, hL⟩ := u.any ho I.free fun z => (hch _ z).2.1 rfl
  exact I.step (ch := ch) hch (fun b o hL hb hc e n => u.keep b o e n (fun z => (List.mem_cons.mp (I.stkSub b z)).elim hL hb) hc) (fun b o _ _ hc e n => u.any e n hc) (fun b o hc e n => u.free b o e n hc) (fun b o hc e => u.there b o e hc) u.tups u.frzs u.tbls (fun m' hm => by
    obtain ⟨o', es', ep', ho', r'⟩ := hm
    rw [ho] at ho'; cases ho'
    exact ⟨_, es', ep', hL, r'⟩) hok hg
/-- an untracked record of ours (an iterator) has turned -/
theorem Inv.turned {t' : Nat} {it : Addr} (I : Inv X pins σ H s) (k : ∀ b o, b ≠ it → s.heap.get? b = some o → h'.get? b = some o) (hn : H it = none) (hL : it ≠ X.env.locals)
    (h1 : it ∈ X.ex ∨ X.s₀.heap.objs.size ≤ it) (h2 : ∀ x c, X.env.cells.lookup x = some c → c ≠ it) (h3 : ∀ p ∈ X.pn ++ pins, p.1 ≠ it) : Inv X pins σ H { s with heap := h', toks := t' } := by
  have nit : ∀ b u, H b = some u → b ≠ it := fun b u e z => by rw [z, hn] at e; cases e
  refine I.step (g' := s.gens) (d' := s.drawn) (ch := [it]) (fun b hb => ?_) (fun b o _ _ hc e _ => k b o (fun z => hc (by simp [z])) e) (fun b o _ _ hc e _ => ⟨o.slots, k b o (fun z => hc (by simp [z])) e⟩) (fun _ _ _ _ n => n)
    (fun b o hc e => ⟨o, k b o (fun z => hc (by simp [z])) e⟩) (fun _ _ e => e) (fun _ _ _ e => e) (fun b ps e => ⟨#[], by rw [e]; simp⟩) (fun m hm => ?_) (fun b u e => ?_) I.bare
  · have e : b = it := by simpa using hb
    subst e
    exact ⟨h1, hL, h2, h3⟩
  · obtain ⟨o, es, ep, ho, r⟩ := hm
    exact ⟨o, es, ep, k _ o (Ne.symm hL) ho, r⟩
  · refine (I.hok b u e).stay (fun c v hc q => k c v ?_ q) (fun _ q => q) fun _ _ q => q
    rcases hc with z | z
    · rw [z]; exact nit b u e
    · exact nit c _ z
theorem Inv.tok (I : Inv X pins σ H s) (t : Nat) : Inv X pins σ H { s with toks := t } := I.un (h' := s.heap) (t' := t) Un.refl I.hok
/-- all objects kept -/
theorem Inv.kept {t' : Nat} (I : Inv X pins σ H s) (k : ∀ b u, s.heap.get? b = some u → h'.get? b = some u) : Inv X pins σ H { s with heap := h', toks := t' } := I.un (Un.kept k) (I.hok.kept k)
/-- a new object laid and tracked -/
theorem Inv.laid {a : Addr} {o : HO} {t' : Nat} (I : Inv X pins σ H s) (k : ∀ b u, s.heap.get? b = some u → h'.get? b = some u) (hp : s.heap.objs.size ≤ a) (new : ObjOk X.prog X.w (upd H a o) h' a o) :
    Inv X pins σ (upd H a o) { s with heap := h', toks := t' } := I.un (Un.laid k hp (I.hok.fresh hp)) (I.hok.laid k hp new)
/-- an object written -/
theorem Inv.write {x e : Addr} {o : HO} {t' : Nat} (I : Inv X pins σ H s) (mu : Mut (H x)) (he : e = x ∨ H e = some (.own x)) (k : ∀ b u, b ≠ e → s.heap.get? b = some u → h'.get? b = some u) (heo : ∃ u, h'.get? e = some u)
    (new : ObjOk X.prog X.w (upd H x o) h' x o) : Inv X pins σ (upd H x o) { s with heap := h', toks := t' } := I.un (Un.write mu he k heo) (I.hok.write mu he k heo new)
/-- forgetting slots, pins -/
theorem Inv.weak {σ' : List (Option V)} (I : Inv X pins σ H s) (hl : σ'.length = σ.length) (w : ∀ (i : Nat) v, σ'[i]? = some (some v) → σ[i]? = some (some v)) : Inv X pins σ' H s :=
  ⟨I.ok, I.os, I.bare, I.base, let ⟨m, hn, hl'⟩ := I.loc; ⟨m, hn, fun i x v e1 e2 e3 => hl' i x v e1 (w i v e2) e3⟩, I.cell, I.free, I.freeC, I.pin, I.hok, hl.trans I.len⟩
theorem Inv.pins_of {pins' : List (Addr × Obj)} (I : Inv X pins σ H s) (h : ∀ p ∈ pins', s.heap.get? p.1 = some p.2 ∧ H p.1 = none ∧ p.1 ≠ X.env.locals ∧ p.1 ∉ X.fs ∧ ∀ v, p.2.data ≠ .cell v) : Inv X pins' σ H s :=
  ⟨I.ok, I.os, I.bare, I.base, I.loc, I.cell, I.free, I.freeC, fun p hp => (List.mem_append.mp hp).elim (fun z => I.pin p (List.mem_append_left _ z)) (h p), I.hok, I.len⟩

theorem nodup_ix {N : List Str} (hN : N.Nodup) {i j : Nat} {x : Str} (a : N[i]? = some x) (b : N[j]? = some x) : i = j := by
  obtain ⟨h1, e1⟩ := List.getElem?_eq_some_iff.mp a
  obtain ⟨h2, e2⟩ := List.getElem?_eq_some_iff.mp b
  exact (List.getElem_inj hN).mp (e1.trans e2.symm)

/-- a name is stored; what changed -/
theorem store_ok2 {M : Model} {A : Around} {E : Value → Shared → Prop} {i : Nat} {x : Str} {v : V} {u : Value} {Q : Unit → Shared → Prop} (I : Inv X pins σ H s) (hN : X.N.Nodup) (hi : X.N[i]? = some x) (hx : Loc X.env.scope x) (r : RelV v u)
    (h : ∀ s', Inv X pins (σ.set i (some v)) H s' → (∃ a, Heap.SameBut a s.heap s'.heap ∧ (a = X.env.locals ∨ X.env.cells.lookup x = some a)) → Q () s') (hf : X.fn x = true ∨ X.env.scope.names.lookup x = some .local := by first | exact .inl rfl | exact .inr rfl | assumption) : wpAny M A (storeName X.env x u) Q E s := by
  obtain ⟨m, hn, hl⟩ := id I.loc
  have hcls : (X.env.scope.kind == .class || (X.env.scope.kind == .module && X.env.locals != X.env.globals)) = false := by rw [I.ok.kind]; rfl
  have hiσ : i < σ.length := by rw [I.len]; exact (List.getElem?_eq_some_iff.mp hi).1
  have cne := I.cne
  have tracked : ∀ {a : Addr} {h' : Heap}, (∃ o, s.heap.get? a = some o ∧ H a = none) → Heap.SameBut a s.heap h' → HOk X.prog X.w H h' := fun {a h'} ha hs b ob e => by
    obtain ⟨_, _, hfree⟩ := ha
    refine (I.hok b ob e).stay (fun c w' hc q => (hs.2 c ?_).trans q) (fun _ q => q) fun _ _ q => q
    rintro rfl
    rcases hc with rfl | hc
    · rw [hfree] at e; cases e
    · rw [hfree] at hc; cases hc
  rcases hx with hk | hk
  · refine wpAny_storeName_local hk hn (fun h' hn' hs => ?_) hcls
    obtain ⟨oL, _, _, hoL, _⟩ := id hn
    refine h _ ⟨I.ok, I.os, I.bare, ⟨fun b o e n hb hx => ?_, fun b o e n hb hx => ?_, I.base.free, fun b o e hx => ?_, I.base.tups, I.base.frzs, I.base.tbls⟩, ⟨_, hn', fun j y v' e1 e2 e3 => ?_⟩, fun y c e => ?_, I.free, I.freeC, fun p hp => ?_, tracked ⟨oL, hoL, I.free⟩ hs, by simpa using I.len⟩ ⟨_, hs, .inl rfl⟩
    · exact (hs.2 b (Nat.ne_of_lt (Nat.lt_of_lt_of_le (Heap.lt_size e) I.ok.above))).trans (I.base.keep b o e n hb hx)
    · obtain ⟨sl, e1⟩ := I.base.slot b o e n hb hx
      exact ⟨sl, (hs.2 b (Nat.ne_of_lt (Nat.lt_of_lt_of_le (Heap.lt_size e) I.ok.above))).trans e1⟩
    · obtain ⟨o', e1⟩ := I.base.there b o e hx
      exact ⟨o', (hs.2 b (Nat.ne_of_lt (Nat.lt_of_lt_of_le (Heap.lt_size e) I.ok.above))).trans e1⟩
    · by_cases hj : j = i
      · subst hj
        rw [hi] at e1; cases e1
        rw [List.getElem?_set_self hiσ] at e2
        cases e2
        exact ⟨u, r, .inl ⟨hk, by simp⟩⟩
      · rw [List.getElem?_set_ne (Ne.symm hj)] at e2
        obtain ⟨u', r', q⟩ := hl j y v' e1 e2 e3
        refine ⟨u', r', ?_⟩
        rcases q with ⟨k, e⟩ | ⟨k, c, e, z⟩
        · refine .inl ⟨k, ?_⟩
          have : y ≠ x := fun e => hj (nodup_ix hN e1 (e ▸ hi))
          simp [this, e]
        · exact .inr ⟨k, c, e, z.sameBut hs (cne y c e)⟩
    · obtain ⟨w', z⟩ := I.cell y c e
      exact ⟨w', z.sameBut hs (cne y c e)⟩
    · obtain ⟨e, n, ne, nf, d⟩ := I.pin p hp
      exact ⟨(hs.2 p.1 ne).trans e, n, ne, nf, d⟩
  · have hfn : X.fn x = true := by
      rcases hf with z | z
      · exact z
      · rw [z] at hk; cases hk
    obtain ⟨c, hc⟩ := I.ok.has x (.inl hk)
    obtain ⟨w', z⟩ := I.cell x c hc
    refine wpAny_storeName_cell I.ok.kind hk hc z (fun h' hc' hs => ?_)
    obtain ⟨oc, hoc, hocd⟩ := id z
    refine h { s with heap := h' } ⟨I.ok, I.os, I.bare, ⟨fun b o e n hb hx => ?_, fun b o e n hb hx => ?_, I.base.free, fun b o e hx => ?_, I.base.tups, I.base.frzs, I.base.tbls⟩, ⟨m, hn.sameBut hs (Ne.symm (cne x c hc)), fun j y v' e1 e2 e3 => ?_⟩, fun y c' e => ?_, I.free, I.freeC, fun p hp => ?_, tracked ⟨oc, hoc, I.freeC x c hc⟩ hs, by simpa using I.len⟩ ⟨c, hs, .inr hc⟩
    · exact (hs.2 b (Nat.ne_of_lt (Nat.lt_of_lt_of_le (Heap.lt_size e) (I.ok.cab x c hfn hc)))).trans (I.base.keep b o e n hb hx)
    · obtain ⟨sl, e1⟩ := I.base.slot b o e n hb hx
      exact ⟨sl, (hs.2 b (Nat.ne_of_lt (Nat.lt_of_lt_of_le (Heap.lt_size e) (I.ok.cab x c hfn hc)))).trans e1⟩
    · obtain ⟨o', e1⟩ := I.base.there b o e hx
      exact ⟨o', (hs.2 b (Nat.ne_of_lt (Nat.lt_of_lt_of_le (Heap.lt_size e) (I.ok.cab x c hfn hc)))).trans e1⟩
    · by_cases hj : j = i
      · subst hj
        rw [hi] at e1; cases e1
        rw [List.getElem?_set_self hiσ] at e2
        cases e2
        exact ⟨u, r, .inr ⟨.inl hk, c, hc, hc'⟩⟩
      · rw [List.getElem?_set_ne (Ne.symm hj)] at e2
        obtain ⟨u', r', q⟩ := hl j y v' e1 e2 e3
        refine ⟨u', r', ?_⟩
        rcases q with q | ⟨k, c', e, z'⟩
        · exact .inl q
        · refine .inr ⟨k, c', e, z'.sameBut hs ?_⟩
          rintro rfl
          exact hj (nodup_ix hN e1 (I.ok.inj _ _ _ e hc ▸ hi))
    · by_cases hcc : c' = c
      · subst hcc; exact ⟨_, hc'⟩
      · obtain ⟨w2, z2⟩ := I.cell y c' e
        exact ⟨w2, z2.sameBut hs hcc⟩
    · obtain ⟨e, n, ne, nf, d⟩ := I.pin p hp
      refine ⟨(hs.2 p.1 ?_).trans e, n, ne, nf, d⟩
      intro q
      rw [q, hoc] at e
      have q' : oc = p.2 := Option.some.inj e
      exact d w' (by rw [← q']; exact hocd)
theorem store_ok {M : Model} {A : Around} {E : Value → Shared → Prop} {i : Nat} {x : Str} {v : V} {u : Value} {Q : Unit → Shared → Prop} (I : Inv X pins σ H s) (hN : X.N.Nodup) (hi : X.N[i]? = some x) (hx : Loc X.env.scope x) (r : RelV v u)
    (h : ∀ s', Inv X pins (σ.set i (some v)) H s' → Q () s') (hf : X.fn x = true ∨ X.env.scope.names.lookup x = some .local := by first | exact .inl rfl | exact .inr rfl | assumption) : wpAny M A (storeName X.env x u) Q E s :=
  store_ok2 I hN hi hx r (fun s' I' _ => h s' I') hf
/-- behind a call or a block, the state as it is -/
theorem Inv.call' {s' : Shared} {ch : List Addr} (I : Inv X pins σ H s) (ho : s'.os = s.os) (u : Un (frs X.stack) ch H H' s.heap s'.heap) (hok : HOk X.prog X.w H' s'.heap) (hg : AllBare s'.gens)
    (hch : ∀ b ∈ ch, (b ∈ X.ex ∨ X.s₀.heap.objs.size ≤ b) ∧ b ≠ X.env.locals ∧ (∀ x c, X.env.cells.lookup x = some c → c ≠ b) ∧ ∀ p ∈ X.pn ++ pins, p.1 ≠ b) : Inv X pins σ H' s' := by
  obtain ⟨h', g', d', t', o'⟩ := s'
  have e : o' = s.os := ho
  subst e
  exact I.call (g' := g') (t' := t') (d' := d') u hok hg hch
end

/-! ### the judgements -/
/-- an exception: its class, its own dict's address (where it has one), the abstract heap behind it -/
abbrev XK := Value → Option Addr → Hp → Prop
abbrev St := List (Option V)
abbrev VK := V → Hp → Prop
/-- an expression's reading; a test's; an argument list's -/
abbrev TE := St → Hp → VK → Prop
abbrev TT := St → Hp → (Bool → Hp → Prop) → Prop
abbrev TA := St → Hp → (List V → Hp → Prop) → Prop
/-- what is wanted behind a statement -/
structure Ends where
  nx : St → Hp → Prop
  rt : VK
  bk : St → Hp → Prop := fun _ _ => False
  ct : St → Hp → Prop := fun _ _ => False
abbrev TS := Ends → St → Hp → Prop

def EP (X : Cx) (pins : List (Addr × Obj)) (σ : St) (Q : VK) (u : Value) (s' : Shared) : Prop := ∃ v H', Inv X pins σ H' s' ∧ RelV v u ∧ Q v H'
def TP (X : Cx) (pins : List (Addr × Obj)) (σ : St) (Q : Bool → Hp → Prop) (b : Bool) (s' : Shared) : Prop := ∃ H', Inv X pins σ H' s' ∧ Q b H'
def AP (X : Cx) (pins : List (Addr × Obj)) (σ : St) (Q : List V → Hp → Prop) (us : List Value) (s' : Shared) : Prop := ∃ vs H', Inv X pins σ H' s' ∧ Vals vs us ∧ Q vs H'
def SP (X : Cx) (pins : List (Addr × Obj)) (D : Ends) (f : Flow) (s' : Shared) : Prop :=
  match f with
  | .next => ∃ σ' H', Inv X pins σ' H' s' ∧ D.nx σ' H'
  | .brk => ∃ σ' H', Inv X pins σ' H' s' ∧ D.bk σ' H'
  | .cont => ∃ σ' H', Inv X pins σ' H' s' ∧ D.ct σ' H'
  | .ret u => ∃ v σ' H', Inv X pins σ' H' s' ∧ RelV v u ∧ D.rt v H'

def PE (X : Cx) (e : Expr) (t : TE) : Prop :=
  ∀ (pins : List (Addr × Obj)) (s : Shared) (σ : St) (H : Hp) (Q : VK), Inv X pins σ H s → t σ H Q → wpAny (model X.prog X.w) X.A (eval e X.env) (EP X pins σ Q) X.xe s
def PT (X : Cx) (e : Expr) (t : TT) : Prop :=
  ∀ (pins : List (Addr × Obj)) (s : Shared) (σ : St) (H : Hp) (Q : Bool → Hp → Prop), Inv X pins σ H s → t σ H Q → wpAny (model X.prog X.w) X.A (isTrue e X.env (eval e X.env)) (TP X pins σ Q) X.xe s
/-- a test whatever its 'whole' is (and, or) -/
def PW (X : Cx) (e : Expr) (t : TT) : Prop :=
  ∀ (whole : Sem Value) (pins : List (Addr × Obj)) (s : Shared) (σ : St) (H : Hp) (Q : Bool → Hp → Prop), Inv X pins σ H s → t σ H Q → wpAny (model X.prog X.w) X.A (isTrue e X.env whole) (TP X pins σ Q) X.xe s
theorem PW.pt {X : Cx} {e : Expr} {t : TT} (h : PW X e t) : PT X e t := h _
/-- an argument list (no star), from the left -/
def PA (X : Cx) (es : List Expr) (t : TA) : Prop :=
  ∀ (pos : Pos) (pins : List (Addr × Obj)) (s : Shared) (σ : St) (H : Hp) (Q : List V → Hp → Prop), Inv X pins σ H s → t σ H Q → wpAny (model X.prog X.w) X.A (spliced (backTo pos (starEach es X.env))) (AP X pins σ Q) X.xe s
def PS (X : Cx) (st : Stmt) (t : TS) : Prop :=
  ∀ (pins : List (Addr × Obj)) (s : Shared) (σ : St) (H : Hp) (D : Ends), Inv X pins σ H s → t D σ H → wpAny (model X.prog X.w) X.A (exec st X.env) (SP X pins D) X.xe s
def PSs (X : Cx) (st : List Stmt) (t : TS) : Prop :=
  ∀ (pins : List (Addr × Obj)) (s : Shared) (σ : St) (H : Hp) (D : Ends), Inv X pins σ H s → t D σ H → wpAny (model X.prog X.w) X.A (execs st X.env) (SP X pins D) X.xe s
/-- weaken the end -/
theorem thn {α : Type} {t : Sem α} {Q Q' : α → Shared → Prop} {M : Model} {A : Around} {E : Value → Shared → Prop} {s : Shared} (h : wpAny M A t Q E s) (hQ : ∀ a s, Q a s → Q' a s) : wpAny M A t Q' E s := wpAny_mono h hQ fun _ _ x => x
end L2

namespace L2
open PySem PySem.Spec PyProof.Rows
section
variable {X : Cx}

/-! ### names and constants -/
def tVar (i : Nat) : TE := fun σ H Q => ∃ v, σ[i]? = some (some v) ∧ Q v H
def tC (v : V) : TE := fun _ H Q => Q v H
theorem pe_var {i : Nat} {x : Str} {pos : Pos} (hN : X.N[i]? = some x) (hv : Vis X.env.scope x) (hd : (x == ("__debug__" : Str)) = false := by decide) (hcd : (x == ("__classdict__" : Str)) = false := by decide) : PE X (.Name x pos) (tVar i) := by
  intro pins s σ H Q I h
  obtain ⟨v, e, h⟩ := h
  obtain ⟨m, hn, hl⟩ := I.loc
  obtain ⟨u, r, l⟩ := hl i x v hN e hv
  have fin : EP X pins σ Q u s := ⟨v, H, I, r, h⟩
  rcases l with ⟨hk, hm⟩ | ⟨hk, c, hc, hcell⟩
  · exact wpAny_Name (wpAny_loadName_local I.ok.kind hk hn hm fin) hd
  · rcases hk with hk | hk
    · exact wpAny_Name (wpAny_loadName_cell I.ok.kind hk hc hcell fin) hd
    · exact wpAny_Name (wpAny_loadName_free I.ok.kind hk hc hcell fin hcd) hd
theorem pe_int {i j pos} : PE X (.Constant (.int i) j pos) (tC (.int i)) := fun _ _ _ H _ I h => wpAny_Constant_int ⟨.int i, H, I.tok _, ⟨_, rfl⟩, h⟩
theorem pe_bl {b j pos} : PE X (.Constant (.bool b) j pos) (tC (.bl b)) := fun _ _ _ H _ I h => Constant_bool ⟨.bl b, H, I, rfl, h⟩
theorem pe_non {j pos} : PE X (.Constant .none j pos) (tC .non) := fun _ _ _ H _ I h => Constant_none ⟨.non, H, I, rfl, h⟩
theorem pe_str {x j pos} : PE X (.Constant (.str x) j pos) (tC (.str x)) := fun _ _ _ H _ I h => Calls.Constant_str ⟨.str x, H, I.tok _, ⟨_, rfl⟩, h⟩

/-- a global name of the def -/
def Gl (X : Cx) (x : Str) : Prop := X.env.kindOf x = some .globalImplicit
theorem ld_glob {E : Value → Shared → Prop} {pins : List (Addr × Obj)} {s : Shared} {σ : St} {H : Hp} {x : Str} {u : Value} {pos : Pos} {Q : Value → Shared → Prop} (I : Inv X pins σ H s) (hg : Gl X x) (hm : X.mg x = some u) (h : Q u s)
    (hd : (x == ("__debug__" : Str)) = false := by decide) : wpAny (model X.prog X.w) X.A (eval (.Name x pos) X.env) Q E s :=
  Calls.Name_function_global I.ok.kind hg (Calls.loadGlobal_global (by rw [I.ok.glob]; exact I.mod.glob.keeps I.bk) hm h) hd
theorem ld_blt {E : Value → Shared → Prop} {pins : List (Addr × Obj)} {s : Shared} {σ : St} {H : Hp} {x : Str} {u : Value} {pos : Pos} {Q : Value → Shared → Prop} (I : Inv X pins σ H s) (hg : Gl X x) (hm : X.mg x = none) (hv : bootBuiltins x = some u) (h : Q u s)
    (hn : x ≠ "__name__" := by decide) (hd : (x == ("__debug__" : Str)) = false := by decide) : wpAny (model X.prog X.w) X.A (eval (.Name x pos) X.env) Q E s := by
  obtain ⟨mb, h1, h2⟩ := I.mod.blt
  exact Calls.Name_function_global I.ok.kind hg (Calls.loadGlobal_builtin (by rw [I.ok.glob]; exact I.mod.glob.keeps I.bk) hm (by rw [I.ok.blt]; exact h1.keeps I.bk) ((h2 x hn).trans hv) h) hd
theorem pe_bltn {x : Str} {v : V} {u : Value} {pos : Pos} (hg : Gl X x) (hm : X.mg x = none) (hv : bootBuiltins x = some u) (r : RelV v u) (hn : x ≠ "__name__" := by decide) (hd : (x == ("__debug__" : Str)) = false := by decide) : PE X (.Name x pos) (tC v) :=
  fun _ _ _ H _ I h => ld_blt I hg hm hv ⟨v, H, I, r, h⟩ hn hd

/-! ### arithmetic -/
variable {a b : Expr} {ta tb : TE} {pos : Pos}

/-! ### comparisons -/
/-- a comparison as a value, as a test -/
def tB (t : TE) : TT := fun σ H Q => t σ H fun x H1 => ∃ c, x = .bl c ∧ Q c H1
/-- an expression whose value is a bool, as a test -/
theorem pt_val {e : Expr} {t : TE} (h : PE X e t) (he : ∀ whole, isTrue e X.env whole = (do let v ← whole; standAt e.pos; holding [v] (truthy v)) := by intro _; rfl) : PT X e (tB t) := by
  intro pins s σ H Q I hw
  refine isTrue_plain (thn (h pins s σ H _ I hw) fun v s1 ⟨x, H1, I1, r1, q1⟩ => ?_) (he _)
  obtain ⟨d, rfl, q⟩ := q1
  cases r1
  exact wpAny_truthy_bool ⟨H1, I1, q⟩

/-! ### and, or, not -/
variable {tA tB' : TT} {rest : List Expr}
def tAnd (t u : TT) : TT := fun σ H Q => t σ H fun c H1 => if c = true then u σ H1 Q else Q false H1
def tOr (t u : TT) : TT := fun σ H Q => t σ H fun c H1 => if c = true then Q true H1 else u σ H1 Q
def tNot (t : TT) : TT := fun σ H Q => t σ H fun c H1 => Q (!c) H1
theorem pw_and1 (ha : PT X a tA) : PW X (.BoolOp .And [a] pos) tA := by
  intro wh pins s σ H Q I h
  refine isTrue_and (thn (ha pins s σ H Q I h) fun c s1 e => ?_)
  cases c with
  | true => exact isTrue_and_nil e
  | false => exact e
theorem pw_or1 (ha : PT X a tA) : PW X (.BoolOp .Or [a] pos) tA := by
  intro wh pins s σ H Q I h
  refine isTrue_or (thn (ha pins s σ H Q I h) fun c s1 e => ?_)
  cases c with
  | false => exact isTrue_or_nil e
  | true => exact e
theorem pw_and (ha : PT X a tA) (hb : PW X (.BoolOp .And (b :: rest) pos) tB') : PW X (.BoolOp .And (a :: b :: rest) pos) (tAnd tA tB') := by
  intro wh pins s σ H Q I h
  refine isTrue_and (thn (ha pins s σ H _ I h) fun c s1 ⟨H1, I1, q1⟩ => ?_)
  cases c with
  | true => exact hb wh pins s1 σ H1 Q I1 q1
  | false => exact ⟨H1, I1, q1⟩
theorem pw_or (ha : PT X a tA) (hb : PW X (.BoolOp .Or (b :: rest) pos) tB') : PW X (.BoolOp .Or (a :: b :: rest) pos) (tOr tA tB') := by
  intro wh pins s σ H Q I h
  refine isTrue_or (thn (ha pins s σ H _ I h) fun c s1 ⟨H1, I1, q1⟩ => ?_)
  cases c with
  | true => exact ⟨H1, I1, q1⟩
  | false => exact hb wh pins s1 σ H1 Q I1 q1
theorem pt_not (ha : PT X a tA) : PT X (.UnaryOp .Not a pos) (tNot tA) := by
  intro pins s σ H Q I h
  exact isTrue_not (ha pins s σ H (fun c H1 => Q (!c) H1) I h)
/-- .. as values (bools) -/
def tAndV (ta tb : TE) : TE := fun σ H Q => ta σ H fun x H1 => ∃ c, x = .bl c ∧ if c = true then tb σ H1 Q else Q (.bl false) H1
def tNotV (ta : TE) : TE := fun σ H Q => ta σ H fun x H1 => ∃ c, x = .bl c ∧ Q (.bl (!c)) H1
theorem pe_one {op} {t : TE} (h : PE X a t) : PE X (.BoolOp op [a] pos) t := fun pins s σ H Q I hw => BoolOp_one (h pins s σ H Q I hw)
theorem pe_and (ha : PE X a ta) (hb : PE X (.BoolOp .And (b :: rest) pos) tb) : PE X (.BoolOp .And (a :: b :: rest) pos) (tAndV ta tb) := by
  intro pins s σ H Q I h
  refine BoolOp_and (thn (ha pins s σ H _ I h) fun v s1 ⟨x, H1, I1, r1, q1⟩ => ?_)
  obtain ⟨c, rfl, q1⟩ := q1
  cases r1
  refine wpAny_truthy_bool ?_
  cases c with
  | true => exact hb pins s1 σ H1 Q I1 q1
  | false => exact ⟨.bl false, H1, I1, rfl, q1⟩
theorem pe_not (ha : PE X a ta) : PE X (.UnaryOp .Not a pos) (tNotV ta) := by
  intro pins s σ H Q I h
  refine UnaryOp_ (thn (ha pins s σ H _ I h) fun v s1 ⟨x, H1, I1, r1, q1⟩ => ?_)
  obtain ⟨c, rfl, q1⟩ := q1
  cases r1
  exact not_of (wpAny_truthy_bool ⟨.bl (!c), H1, I1, rfl, q1⟩)
end
end L2

namespace L2
open PySem PySem.Spec PyProof.Rows

/-! ### a list, a tuple that is read: tracked, frozen, or an object of the module -/
def SqL (K : PySem.W.Frag) (H : Hp) (a : Addr) (xs : List V) : Prop :=
  Rd H a (.lst xs) ∨
    ∃ (o : Obj) (its : Array Value) (n : Nat), K.lookup a = some o ∧ o.cls = .type "list" ∧ o.dict = none ∧ o.data = .seq its n ∧ its.size ≤ sizeLine ∧ Vals xs its.toList
def SqT (K : PySem.W.Frag) (H : Hp) (a : Addr) (xs : List V) : Prop :=
  Rd H a (.tup xs) ∨
    ∃ (o : Obj) (its : Array Value) (n : Nat), K.lookup a = some o ∧ o.cls = .type "tuple" ∧ o.data = .seq its n ∧ its.size ≤ sizeLine ∧ Vals xs its.toList
def absV : Value → Option V
  | .none => some .non
  | .bool b => some (.bl b)
  | .int i _ => some (.int i)
  | .str x _ => some (.str x)
  | .bytes b _ => some (.byt b)
  | .float b _ => some (.flt b)
  | .ref a => some (.ref a)
  | .type n => some (.ty n)
  | _ => none
theorem RelV.abs {x : V} {u : Value} (r : RelV x u) : absV u = some x := by
  cases x with
  | non => cases r; rfl
  | bl _ => cases r; rfl
  | int _ => obtain ⟨t, rfl⟩ := r; rfl
  | str _ => obtain ⟨t, rfl⟩ := r; rfl
  | byt _ => obtain ⟨t, rfl⟩ := r; rfl
  | flt _ => obtain ⟨t, rfl⟩ := r; rfl
  | ref _ => cases r; rfl
  | ty _ => cases r; rfl
theorem RelV.inj {x y : V} {u : Value} (r : RelV x u) (q : RelV y u) : x = y := Option.some.inj (r.abs.symm.trans q.abs)
theorem Vals.inj : ∀ {xs ys : List V} {us : List Value}, Vals xs us → Vals ys us → xs = ys
  | _, _, _, .nil, .nil => rfl
  | _, _, _, .cons r t, .cons r' t' => by rw [r.inj r', Vals.inj t t']
section
variable {X : Cx} {pins : List (Addr × Obj)} {σ : St} {H : Hp} {s : Shared} {a : Addr} {xs ys : List V}
theorem SqL.of {K : PySem.W.Frag} (h : H a = some (.lst xs)) : SqL K H a xs := .inl (.inl h)
theorem SqT.of {K : PySem.W.Frag} (h : H a = some (.tup xs)) : SqT K H a xs := .inl (.inl h)
theorem Inv.list (I : Inv X pins σ H s) (h : SqL X.K H a xs) : ∃ its : List Value, Vals xs its ∧ PlainL s.heap a its.toArray ∧ xs.length ≤ sizeLine := by
  rcases h with h | ⟨o, its, n, hk, hc, hd, hs, hz, r⟩
  · obtain ⟨z, its, n, r, e⟩ := h.ok I.hok
    exact ⟨its, r, ⟨_, n, e, rfl, rfl, rfl⟩, z⟩
  · refine ⟨its.toList, r, ⟨o, n, I.kIn a o hk, hc, hd, by simpa using hs⟩, ?_⟩
    have e := r.length
    simp only [Array.length_toList] at e
    omega
theorem Inv.tuple (I : Inv X pins σ H s) (h : SqT X.K H a xs) : ∃ its : List Value, Vals xs its ∧ IsTup s.heap a its.toArray ∧ xs.length ≤ sizeLine := by
  rcases h with h | ⟨o, its, n, hk, hc, hs, hz, r⟩
  · obtain ⟨z, its, r, p⟩ := h.ok I.hok
    exact ⟨its, r, p.1, z⟩
  · refine ⟨its.toList, r, ⟨o, I.kIn a o hk, hc, n, by simpa using hs⟩, ?_⟩
    have e := r.length
    simp only [Array.length_toList] at e
    omega
theorem Inv.list_inj (I : Inv X pins σ H s) (h : SqL X.K H a xs) (h' : SqL X.K H a ys) : xs = ys := by
  obtain ⟨its, r, ⟨o, n, e, _, _, d⟩, _⟩ := I.list h
  obtain ⟨its', r', ⟨o', n', e', _, _, d'⟩, _⟩ := I.list h'
  rw [e] at e'; cases e'
  rw [d] at d'
  injection d' with d1 _
  have : its = its' := by simpa using congrArg Array.toList d1
  subst this
  exact r.inj r'
theorem Inv.tuple_inj (I : Inv X pins σ H s) (h : SqT X.K H a xs) (h' : SqT X.K H a ys) : xs = ys := by
  obtain ⟨its, r, ⟨o, e, _, n, d⟩, _⟩ := I.tuple h
  obtain ⟨its', r', ⟨o', e', _, n', d'⟩, _⟩ := I.tuple h'
  rw [e] at e'; cases e'
  rw [d] at d'
  injection d' with d1 _
  have : its = its' := by simpa using congrArg Array.toList d1
  subst this
  exact r.inj r'
end

/-! ### another wish about exceptions -/
abbrev Cx.wish (X : Cx) (E : Value → Shared → Prop) : Cx := { X with xe := E }
/-- no exception leaves -/
abbrev Cx.nox (X : Cx) : Cx := X.wish fun _ _ => False
theorem Cx.Ok.wish {X : Cx} (ok : X.Ok) (E : Value → Shared → Prop) : (X.wish E).Ok :=
  ⟨ok.mod, ok.kind, ok.glob, ok.blt, ok.above, ok.inj, ok.has, ok.cab, ok.hd, ok.frames, ok.stk, ok.exf, ok.bs, ok.bsz, ok.noex, ok.exfs, ok.funs, ok.frf⟩
theorem Cx.Ok.unwish {X : Cx} {E : Value → Shared → Prop} (ok : (X.wish E).Ok) : X.Ok :=
  ⟨ok.mod, ok.kind, ok.glob, ok.blt, ok.above, ok.inj, ok.has, ok.cab, ok.hd, ok.frames, ok.stk, ok.exf, ok.bs, ok.bsz, ok.noex, ok.exfs, ok.funs, ok.frf⟩
section
variable {X : Cx} {pins : List (Addr × Obj)} {σ : St} {H : Hp} {s : Shared} {E : Value → Shared → Prop}
theorem Inv.wish (I : Inv X pins σ H s) (E : Value → Shared → Prop) : Inv (X.wish E) pins σ H s := ⟨I.ok.wish E, I.os, I.bare, I.base, I.loc, I.cell, I.free, I.freeC, I.pin, I.hok, I.len⟩
theorem Inv.unwish (I : Inv (X.wish E) pins σ H s) : Inv X pins σ H s := ⟨I.ok.unwish, I.os, I.bare, I.base, I.loc, I.cell, I.free, I.freeC, I.pin, I.hok, I.len⟩
theorem SP.unwish {D : Ends} {f : Flow} {s' : Shared} (h : SP (X.wish E) pins D f s') : SP X pins D f s' := by
  cases f with
  | next => obtain ⟨σ', H', I, q⟩ := h; exact ⟨σ', H', I.unwish, q⟩
  | brk => obtain ⟨σ', H', I, q⟩ := h; exact ⟨σ', H', I.unwish, q⟩
  | cont => obtain ⟨σ', H', I, q⟩ := h; exact ⟨σ', H', I.unwish, q⟩
  | ret u => obtain ⟨v, σ', H', I, r, q⟩ := h; exact ⟨v, σ', H', I.unwish, r, q⟩
theorem PSs.nox {st : List Stmt} {t : TS} (h : PSs X.nox st t) : PSs X st t := fun pins s σ H D I hw =>
  wpAny_mono (h pins s σ H D (I.wish _) hw) (fun _ _ q => q.unwish) fun _ _ z => False.elim z
end

/-! ### blocks and small statements -/
section
variable {X : Cx} {st : Stmt} {rest : List Stmt} {t u : TS} {e : Expr} {te : TE} {pos : Pos}
def tNext : TS := fun D σ H => D.nx σ H
def tSeq (t u : TS) : TS := fun D σ H => t { D with nx := u D } σ H
theorem pss_nil : PSs X [] tNext := fun _ _ σ H _ I h => wpAny_execs_nil ⟨σ, H, I, h⟩
theorem pss_cons (h1 : PS X st t) (h2 : PSs X rest u) : PSs X (st :: rest) (tSeq t u) := by
  intro pins s σ H D I h
  refine wpAny_execs_cons (thn (h1 pins s σ H { D with nx := u D } I h) fun f s1 q => ?_)
  cases f with
  | next =>
    obtain ⟨σ', H', I', q⟩ := q
    exact h2 pins s1 σ' H' D I' q
  | ret v => exact q
  | brk => exact q
  | cont => exact q
theorem pss_one (h1 : PS X st t) : PSs X [st] t := by
  intro pins s σ H D I h
  refine wpAny_execs_cons (thn (h1 pins s σ H D I h) fun f s1 q => ?_)
  cases f with
  | next => exact wpAny_execs_nil q
  | ret v => exact q
  | brk => exact q
  | cont => exact q
/-- in a def's body nothing is shown -/
theorem Inv.quiet {pins : List (Addr × Obj)} {σ : St} {H : Hp} {s : Shared} (I : Inv X pins σ H s) : interactive X.env = false := by simp [interactive, I.ok.kind]
/-- an expression whose value is dropped -/
def tDrop (te : TE) : TS := fun D σ H => te σ H fun _ H1 => D.nx σ H1
theorem ps_expr (he : PE X e te) (hs : swapsWith e none pos.line X.env = pure false := by rfl) : PS X (.Expr e pos) (tDrop te) := by
  intro pins s σ H D I h
  exact wpAny_Expr_any (thn (he pins s σ H _ I h) fun v s1 ⟨x, H1, I1, r1, q1⟩ => ⟨σ, H1, I1, q1⟩) I.quiet hs
def tRet (te : TE) : TS := fun D σ H => te σ H D.rt
theorem ps_ret (he : PE X e te) : PS X (.Return (some e) pos) (tRet te) := by
  intro pins s σ H D I h
  exact wpAny_Return_some (thn (he pins s σ H _ I h) fun v s1 ⟨x, H1, I1, r1, q1⟩ => ⟨x, σ, H1, I1, r1, q1⟩)
def tIfS (c : TT) (t u : TS) : TS := fun D σ H => c σ H fun b H1 => if b = true then t D σ H1 else u D σ H1
theorem ps_if {c : Expr} {a b : List Stmt} {tc : TT} (hc : PT X c tc) (ha : PSs X a t) (hb : PSs X b u) : PS X (.If c a b pos) (tIfS tc t u) := by
  intro pins s σ H D I h
  refine wpAny_If (thn (hc pins s σ H _ I h) fun d s1 ⟨H1, I1, q1⟩ => ?_)
  cases d with
  | true => exact ha pins s1 σ H1 D I1 q1
  | false => exact hb pins s1 σ H1 D I1 q1
end

/-! ### targets -/
abbrev TG := V → St → Hp → (St → Hp → Prop) → Prop
abbrev TGs := List V → St → Hp → (St → Hp → Prop) → Prop
def PG (X : Cx) (target : Expr) (t : TG) : Prop :=
  ∀ (pins : List (Addr × Obj)) (s : Shared) (σ : St) (H : Hp) (v : V) (u : Value) (Q : St → Hp → Prop), Inv X pins σ H s → RelV v u → t v σ H Q →
    wpAny (model X.prog X.w) X.A (assign target X.env u) (fun _ s' => ∃ σ' H', Inv X pins σ' H' s' ∧ Q σ' H') X.xe s
/-- several targets, one after another -/
def PGs (X : Cx) (ts : List Expr) (t : TGs) : Prop :=
  ∀ (pins : List (Addr × Obj)) (s : Shared) (σ : St) (H : Hp) (vs : List V) (us : List Value) (Q : St → Hp → Prop), Inv X pins σ H s → Vals vs us → t vs σ H Q →
    wpAny (model X.prog X.w) X.A (assignInOrder ((assignEach ts X.env).map (·.2)) us) (fun _ s' => ∃ σ' H', Inv X pins σ' H' s' ∧ Q σ' H') X.xe s
section
variable {X : Cx} {pos : Pos}
def gName (i : Nat) : TG := fun v σ H Q => Q (σ.set i (some v)) H
theorem pg_name {i : Nat} {x : Str} (hN : X.N.Nodup) (hi : X.N[i]? = some x) (hx : Loc X.env.scope x) (hf : X.fn x = true ∨ X.env.scope.names.lookup x = some .local := by first | exact .inl rfl | exact .inr rfl | assumption) : PG X (.Name x pos) (gName i) := by
  intro pins s σ H v u Q I r h
  exact wpAny_assign_Name (store_ok I hN hi hx r (fun s' I' => ⟨_, H, I', h⟩) hf)
def gNil : TGs := fun vs σ H Q => vs = [] ∧ Q σ H
def gCons (t : TG) (u : TGs) : TGs := fun vs σ H Q => ∃ v r, vs = v :: r ∧ t v σ H fun σ' H' => u r σ' H' Q
theorem pgs_nil : PGs X [] gNil := by
  intro pins s σ H vs us Q I r h
  obtain ⟨e, h⟩ := h
  subst e
  cases r
  exact assignInOrder_nil ⟨σ, H, I, h⟩
theorem pgs_cons {e : Expr} {es : List Expr} {t : TG} {u : TGs} (h1 : PG X e t) (h2 : PGs X es u)
    (hs : (assignEach (e :: es) X.env).map (·.2) = assign e X.env :: (assignEach es X.env).map (·.2) := by rfl) : PGs X (e :: es) (gCons t u) := by
  intro pins s σ H vs us Q I r h
  obtain ⟨v, vr, e1, h⟩ := h
  subst e1
  cases r with
  | cons r rr =>
    rw [hs]
    refine assignInOrder_cons (thn (h1 pins s σ H _ _ _ I r h) fun _ s1 ⟨σ1, H1, I1, q1⟩ => ?_)
    exact h2 pins s1 σ1 H1 _ _ Q I1 rr q1
/-- (a, b, ..) = a tuple of that length -/
def gTup (K : PySem.W.Frag) (n : Nat) (t : TGs) : TG := fun v σ H Q => ∃ a xs, v = .ref a ∧ SqT K H a xs ∧ xs.length = n ∧ t xs σ H Q
theorem pg_tup {es : List Expr} {k : Nat} {t : TGs} {n : Nat} (hc : X.calm = true) (h : PGs X es t)
    (hn : (assignEach es X.env).length = n := by rfl) (hst : (assignEach es X.env).findIdx? (·.1) = none := by rfl) : PG X (.Tuple es k pos) (gTup X.K n t) := by
  intro pins s σ H v u Q I r hw
  obtain ⟨a, xs, e1, hq, hl, hw⟩ := hw
  subst e1
  cases r
  obtain ⟨its, rv, ht, hz⟩ := I.tuple hq
  refine assign_Tuple_tuple (I.ok.hd hc) ht (by simp [hn, ← hl, rv.length]) hst fun h' hx => ?_
  have I1 : Inv X pins σ H { s with heap := h' } := I.kept (t' := s.toks) fun b o e => hx b o (Nat.ne_of_lt (Heap.lt_size e)) e
  exact h pins _ σ H xs _ Q I1 (by simpa using rv) hw
/-- target = value -/
def tAsg (te : TE) (g : TG) : TS := fun D σ H => te σ H fun x H1 => g x σ H1 D.nx
/-- name = value -/
theorem ps_set {i : Nat} {x : Str} {e : Expr} {te : TE} {pos' : Pos} (hN : X.N.Nodup) (hi : X.N[i]? = some x) (hx : Loc X.env.scope x) (he : PE X e te) (hs : swapsWith e (some (.Name x pos')) pos.line X.env = pure false := by rfl) (hf : X.fn x = true ∨ X.env.scope.names.lookup x = some .local := by first | exact .inl rfl | exact .inr rfl | assumption) :
    PS X (.Assign [.Name x pos'] e pos) (tAsg te (gName i)) := by
  intro pins s σ H D I h
  refine wpAny_Assign_Name (thn (he pins s σ H _ I h) fun v s1 ⟨y, H1, I1, r1, q1⟩ => ?_) hs
  exact store_ok I1 hN hi hx r1 (fun s2 I2 => ⟨_, H1, I2, q1⟩) hf
end

/-! ### while -/
section
variable {X : Cx} {pos : Pos}
end

/-! ### what a loop or a comprehension walks -/
/-- at turn i: it yields x (the heap may grow), or it stops -/
structure It where
  go : Nat → Hp → Prop
  yld : Nat → Hp → V → Hp → Prop
  stop : Nat → Hp → Prop
/-- the iterator's own objects may turn: they are not the frame's, not pinned, younger than the entry (or a comprehension's own) -/
def FpOk (X : Cx) (pins : List (Addr × Obj)) (H : Hp) (b : Addr) : Prop :=
  H b = none ∧ b ≠ X.env.locals ∧ b ∉ X.fs ∧ (b ∈ X.ex ∨ X.s₀.heap.objs.size ≤ b) ∧ (∀ x c, X.env.cells.lookup x = some c → c ≠ b) ∧ ∀ p ∈ X.pn ++ pins, p.1 ≠ b
theorem Inv.fpOk {X : Cx} {pins : List (Addr × Obj)} {σ : St} {H H' : Hp} {s : Shared} {b : Addr} (I : Inv X pins σ H s) (hb : s.heap.objs.size ≤ b) (hn : H' b = none) : FpOk X pins H' b := by
  refine ⟨hn, Nat.ne_of_gt (Nat.lt_of_lt_of_le I.lt hb), I.nofs hb, .inr (Nat.le_trans I.sz hb), fun x c e z => ?_, fun p hp z => ?_⟩
  · obtain ⟨v, q⟩ := I.cell x c e
    exact absurd (Nat.lt_of_lt_of_le q.lt (by rw [z]; exact hb)) (Nat.lt_irrefl _)
  · exact absurd (Nat.lt_of_lt_of_le (Heap.lt_size (I.pin p hp).1) (by rw [z]; exact hb)) (Nat.lt_irrefl _)
structure Turn (P : Program) (w : World) (K : PySem.W.Frag) (tg : Expr) (J : It) (fp : List Addr) (it : Addr) (tn : Nat → Heap → Prop) : Prop where
  mem : it ∈ fp
  obj : ∀ i h, tn i h → ∀ b ∈ fp, ∃ o, h.get? b = some o ∧ ∀ v, o.data ≠ .cell v
  keep : ∀ i h h', tn i h → (∀ b ∈ fp, ∀ o, h.get? b = some o → h'.get? b = some o) → tn i h'
  item : ∀ (X : Cx), X.prog = P → X.w = w → X.K = K → X.calm = true → ∀ (i : Nat) (pins : List (Addr × Obj)) (s : Shared) (σ : St) (H : Hp) (E : Value → Shared → Prop), Inv X pins σ H s → (∀ b ∈ fp, FpOk X pins H b) → tn i s.heap → J.go i H →
    wpAny (model P w) X.A (pyNext (.ref it)) (fun r s1 => ∃ u, r = some u ∧
      wpAny (model P w) X.A (letOwnedTupleGo tg (.ref it) u) (fun _ s2 => ∃ x H', Inv X pins σ H' s2 ∧ RelV x u ∧ J.yld i H x H' ∧ tn (i + 1) s2.heap ∧ ∀ b ∈ fp, H' b = none) E s1) E s
  done : ∀ (X : Cx), X.prog = P → X.w = w → X.K = K → X.calm = true → ∀ (i : Nat) (pins : List (Addr × Obj)) (s : Shared) (σ : St) (H : Hp) (E : Value → Shared → Prop), Inv X pins σ H s → (∀ b ∈ fp, FpOk X pins H b) → tn i s.heap → J.stop i H →
    wpAny (model P w) X.A (pyNext (.ref it)) (fun r s1 => r = none ∧ Inv X pins σ H s1) E s
  self : ∀ (A : Around) (i : Nat) (s : Shared) (Q : Value → Shared → Prop) (E : Value → Shared → Prop), tn i s.heap → Q (.ref it) s → wpAny (model P w) A (pyIter (.ref it)) Q E s
abbrev TI := St → Hp → (It → Hp → Prop) → Prop
/-- an iterator has come -/
def PIE (X : Cx) (pins : List (Addr × Obj)) (σ : St) (tg : Expr) (R : It → Hp → Prop) (itv : Value) (s2 : Shared) : Prop :=
  ∃ (it : Addr) (fp : List Addr) (tn : Nat → Heap → Prop) (J : It) (H' : Hp), itv = .ref it ∧ Inv X pins σ H' s2 ∧ Turn X.prog X.w X.K tg J fp it tn ∧ tn 0 s2.heap ∧ (∀ b ∈ fp, FpOk X pins H' b) ∧ R J H'
def PI (X : Cx) (tg iter : Expr) (wi : TI) : Prop :=
  ∀ (pins : List (Addr × Obj)) (s : Shared) (σ : St) (H : Hp) (R : It → Hp → Prop), Inv X pins σ H s → wi σ H R →
    wpAny (model X.prog X.w) X.A (eval iter X.env) (fun v s1 => wpAny (model X.prog X.w) X.A (pyIter v) (PIE X pins σ tg R) X.xe s1) X.xe s

/-- the step ahead of the store is nothing for an iterator that keeps no tuple -/
theorem go_of {M : Model} {A : Around} {E : Value → Shared → Prop} {s : Shared} {tg : Expr} {it : Addr} {u : Value} {o : Obj} {n : String} {vs : Array Value} {Q : Unit → Shared → Prop} (ho : s.heap.get? it = some o) (hc : o.cls = .type n) (hd : o.data = .fields vs)
    (hn : ["enumerate", "zip", "dict_itemiterator", "dict_reverseitemiterator", "odict_iterator", "itertools.zip_longest", "itertools.pairwise"].contains n = false) (hQ : Q () s) : wpAny M A (letOwnedTupleGo tg (.ref it) u) Q E s := by
  unfold letOwnedTupleGo
  cases tg <;> first
    | exact wpAny_pure hQ
    | (cases u <;> first
        | exact wpAny_pure hQ
        | (refine wpAny_bind (wpAny_load ho ?_)
           rw [hc, hd]
           show wpAny M A (if (["enumerate", "zip", "dict_itemiterator", "dict_reverseitemiterator", "odict_iterator", "itertools.zip_longest", "itertools.pairwise"].contains n && vs[0]? == some (rawInt _)) = true then _ else _) Q E s
           rw [if_neg (by intro h; rw [hn, Bool.false_and] at h; cases h)]
           exact wpAny_pure hQ))

/-- the list at a, as it stands at each turn (a loop may append to it) -/
def Itl (K : PySem.W.Frag) (a : Addr) : It :=
  ⟨fun i H => ∃ xs x, SqL K H a xs ∧ xs[i]? = some x, fun i H x H' => H' = H ∧ ∀ xs, SqL K H a xs → xs[i]? = some x, fun i H => ∃ xs, SqL K H a xs ∧ xs.length ≤ i⟩
def Itt (K : PySem.W.Frag) (a : Addr) : It :=
  ⟨fun i H => ∃ xs x, SqT K H a xs ∧ xs[i]? = some x, fun i H x H' => H' = H ∧ ∀ xs, SqT K H a xs → xs[i]? = some x, fun i H => ∃ xs, SqT K H a xs ∧ xs.length ≤ i⟩
/-- lo, lo + 1, .. (n of them) -/
def Itr (lo : Int) (n : Nat) : It := ⟨fun i _ => i < n, fun i H x H' => H' = H ∧ x = .int (lo + i), fun i _ => n ≤ i⟩
theorem turn_list {P : Program} {w : World} {K : PySem.W.Frag} {tg : Expr} (a it : Addr) : Turn P w K tg (Itl K a) [it] it (fun i h => h.IsListIter it a i) where
  mem := by simp
  obj := fun i h st b hb => by
    have e : b = it := by simpa using hb
    subst e
    obtain ⟨o, e, c, d⟩ := st
    exact ⟨o, e, fun v z => by rw [d] at z; cases z⟩
  keep := fun i h h' st k => st.at fun o e => k it (by simp) o e
  item := by
    intro X hP hw hK hc i pins s σ H E I hf st hg
    subst hP hw hK
    obtain ⟨xs, x, hq, hx⟩ := hg
    obtain ⟨its, rv, p, hz⟩ := I.list hq
    obtain ⟨u, hu, ru⟩ := rv.get hx
    obtain ⟨f0, f1, f2, f3, f4, f5⟩ := hf it (by simp)
    refine wpAny_pyNext_list_item st p.isList (x := u) (by simpa using hu) fun h' st' sb => ?_
    have I1 : Inv X pins σ H { s with heap := h' } := I.turned (t' := s.toks) (fun b o hb e => (sb.2 b hb).trans e) f0 f1 f3 f4 f5
    obtain ⟨o, e, c, d⟩ := id st'
    exact ⟨u, rfl, go_of (s := { s with heap := h' }) e c d (by decide) ⟨x, H, I1, ru, ⟨rfl, fun ys hy => by rw [I.list_inj hy hq]; exact hx⟩, st', fun b hb => (hf b hb).1⟩⟩
  done := by
    intro X hP hw hK hc i pins s σ H E I hf st hg
    subst hP hw hK
    obtain ⟨xs, hq, hx⟩ := hg
    obtain ⟨its, rv, p, hz⟩ := I.list hq
    obtain ⟨f0, f1, f2, f3, f4, f5⟩ := hf it (by simp)
    have hl := rv.length
    exact wpAny_pyNext_list_end (I.ok.hd hc) st p.isList (by simp; omega) fun h' eb => ⟨rfl, I.turned (t' := s.toks) (fun b o hb e => eb b o hb e) f0 f1 f3 f4 f5⟩
  self := fun _ _ _ _ _ st h => wpAny_pyIter_listiter st h
theorem turn_tuple {P : Program} {w : World} {K : PySem.W.Frag} {tg : Expr} (a it : Addr) : Turn P w K tg (Itt K a) [it] it (fun i h => h.IsTupleIter it a i) where
  mem := by simp
  obj := fun i h st b hb => by
    have e : b = it := by simpa using hb
    subst e
    obtain ⟨o, e, c, d⟩ := st
    exact ⟨o, e, fun v z => by rw [d] at z; cases z⟩
  keep := fun i h h' st k => st.at fun o e => k it (by simp) o e
  item := by
    intro X hP hw hK hc i pins s σ H E I hf st hg
    subst hP hw hK
    obtain ⟨xs, x, hq, hx⟩ := hg
    obtain ⟨its, rv, p, hz⟩ := I.tuple hq
    obtain ⟨u, hu, ru⟩ := rv.get hx
    obtain ⟨f0, f1, f2, f3, f4, f5⟩ := hf it (by simp)
    refine wpAny_pyNext_tuple_item st (show s.heap.IsTuple a its.toArray from p) (x := u) (by simpa using hu) fun h' st' sb => ?_
    have I1 : Inv X pins σ H { s with heap := h' } := I.turned (t' := s.toks) (fun b o hb e => (sb.2 b hb).trans e) f0 f1 f3 f4 f5
    obtain ⟨o, e, c, d⟩ := id st'
    exact ⟨u, rfl, go_of (s := { s with heap := h' }) e c d (by decide) ⟨x, H, I1, ru, ⟨rfl, fun ys hy => by rw [I.tuple_inj hy hq]; exact hx⟩, st', fun b hb => (hf b hb).1⟩⟩
  done := by
    intro X hP hw hK hc i pins s σ H E I hf st hg
    subst hP hw hK
    obtain ⟨xs, hq, hx⟩ := hg
    obtain ⟨its, rv, p, hz⟩ := I.tuple hq
    obtain ⟨f0, f1, f2, f3, f4, f5⟩ := hf it (by simp)
    have hl := rv.length
    exact wpAny_pyNext_tuple_end (I.ok.hd hc) st (show s.heap.IsTuple a its.toArray from p) (by simp; omega) fun h' eb => ⟨rfl, I.turned (t' := s.toks) (fun b o hb e => eb b o hb e) f0 f1 f3 f4 f5⟩
  self := fun _ _ _ _ _ st h => wpAny_pyIter_tupleiter st h
theorem turn_range {P : Program} {w : World} {K : PySem.W.Frag} {tg : Expr} (it : Addr) (lo : Int) (n : Nat) : Turn P w K tg (Itr lo n) [it] it (fun i h => IsRangeIter h it (lo + (i : Nat) * 1) ((n : Int) - (i : Nat)) 1) where
  mem := by simp
  obj := fun i h st b hb => by
    have e : b = it := by simpa using hb
    subst e
    exact ⟨_, st, fun v z => by
      have z' : Data.fields _ = Data.cell v := z
      cases z'⟩
  keep := fun i h h' st k => k it (by simp) _ st
  item := by
    intro X hP hw hK hc i pins s σ H E I hf st hg
    subst hP hw hK
    obtain ⟨f0, f1, f2, f3, f4, f5⟩ := hf it (by simp)
    have W := Walks.range (prog := X.prog) (w := X.w) (I.ok.hd hc) it lo 1 n
    refine W.item i s _ _ hg st fun v h' tk hv st' kk => ?_
    obtain ⟨t, rfl⟩ := hv
    have I1 : Inv X pins σ H { s with heap := h', toks := tk } := I.turned (fun b o hb e => kk b o (by simpa using hb) e) f0 f1 f3 f4 f5
    refine ⟨_, rfl, go_of (s := { s with heap := h', toks := tk }) (n := "range_iterator") st' rfl rfl (by decide) ⟨.int (lo + i), H, I1, ⟨t, ?_⟩, ⟨rfl, rfl⟩, st', fun b hb => (hf b hb).1⟩⟩
    rw [Int.mul_one]
  done := by
    intro X hP hw hK hc i pins s σ H E I hf st hg
    subst hP hw hK
    obtain ⟨f0, f1, f2, f3, f4, f5⟩ := hf it (by simp)
    exact wpAny_pyNext_range_end (I.ok.hd hc) st (by have : n ≤ i := hg; omega) fun h' eb => ⟨rfl, I.turned (t' := s.toks) (fun b o hb e => eb b o hb e) f0 f1 f3 f4 f5⟩
  self := fun _ _ _ _ _ st h => wpAny_pyIter_rangeiter st h
end L2

namespace L2
open PySem PySem.Spec PyProof.Rows
section
variable {X : Cx} {tg : Expr}
def iList (K : PySem.W.Frag) (tl : TE) : TI := fun σ H R => tl σ H fun x H1 => ∃ a, x = .ref a ∧ (∃ xs, SqL K H1 a xs) ∧ R (Itl K a) H1
def iTup (K : PySem.W.Frag) (tl : TE) : TI := fun σ H R => tl σ H fun x H1 => ∃ a, x = .ref a ∧ (∃ xs, SqT K H1 a xs) ∧ R (Itt K a) H1
theorem pi_list {l : Expr} {tl : TE} (hl : PE X l tl) : PI X tg l (iList X.K tl) := by
  intro pins s σ H R I h
  refine thn (hl pins s σ H _ I h) fun v s1 ⟨x, H1, I1, r1, q1⟩ => ?_
  obtain ⟨a, e, ⟨xs, hq⟩, q⟩ := q1
  subst e
  cases r1
  obtain ⟨its, rv, p, hz⟩ := I1.list hq
  refine wpAny_pyIter_list p.isList ?_
  refine ⟨s1.heap.objs.size, [s1.heap.objs.size], _, _, H1, rfl, I1.kept (t' := s1.toks) fun b o e => Heap.get?_push_of_some _ e, turn_list a _, ⟨_, Heap.get?_push_size _ rfl, rfl, rfl⟩, fun b hb => ?_, q⟩
  have e : b = s1.heap.objs.size := by simpa using hb
  subst e
  exact I1.fpOk (Nat.le_refl _) (I1.hok.fresh (Nat.le_refl _))
theorem pi_tup {l : Expr} {tl : TE} (hl : PE X l tl) : PI X tg l (iTup X.K tl) := by
  intro pins s σ H R I h
  refine thn (hl pins s σ H _ I h) fun v s1 ⟨x, H1, I1, r1, q1⟩ => ?_
  obtain ⟨a, e, ⟨xs, hq⟩, q⟩ := q1
  subst e
  cases r1
  obtain ⟨its, rv, p, hz⟩ := I1.tuple hq
  refine wpAny_pyIter_tuple (show s1.heap.IsTuple a its.toArray from p) ?_
  refine ⟨s1.heap.objs.size, [s1.heap.objs.size], _, _, H1, rfl, I1.kept (t' := s1.toks) fun b o e => Heap.get?_push_of_some _ e, turn_tuple a _, ⟨_, Heap.get?_push_size _ rfl, rfl, rfl⟩, fun b hb => ?_, q⟩
  have e : b = s1.heap.objs.size := by simpa using hb
  subst e
  exact I1.fpOk (Nat.le_refl _) (I1.hok.fresh (Nat.le_refl _))
/-- a range object just made, walked -/
theorem range_it {pins : List (Addr × Obj)} {σ : St} {H : Hp} {s : Shared} {R : It → Hp → Prop} {E : Value → Shared → Prop} {lo hi : Int} {t u v : Tok} {tk : Nat} (I : Inv X pins σ H s) (h1 : -(2 ^ 62) ≤ lo) (h2 : lo < 2 ^ 62) (h3 : -(2 ^ 62) ≤ hi) (h4 : hi < 2 ^ 62)
    (q : R (Itr lo (hi - lo).toNat) H) : wpAny (model X.prog X.w) X.A (pyIter (.ref s.heap.objs.size)) (PIE X pins σ tg R) E { s with heap := s.heap.push { cls := .type "range", data := .fields #[.int lo t, .int hi u, .int 1 v] }, toks := tk } := by
  refine wpAny_pyIter_range (IsRange.new ..) (small_one h1 h2 h3 h4) ?_
  have I1 : Inv X pins σ H { s with heap := s.heap.push { cls := .type "range", data := .fields #[.int lo t, .int hi u, .int 1 v] }, toks := tk } := I.kept fun b o e => Heap.get?_push_of_some _ e
  refine ⟨(s.heap.push { cls := .type "range", data := .fields #[.int lo t, .int hi u, .int 1 v] }).objs.size, [(s.heap.push { cls := .type "range", data := .fields #[.int lo t, .int hi u, .int 1 v] }).objs.size], _, _, H, rfl,
    I1.kept (t' := tk) fun b o e => Heap.get?_push_of_some _ e, turn_range _ lo (hi - lo).toNat, ?_, fun b hb => ?_, q⟩
  · have e1 : lo + ((0 : Nat) : Int) * 1 = lo := by simp
    have e2 : (((hi - lo).toNat : Nat) : Int) - ((0 : Nat) : Int) = Builtin.Range.rangeSize lo hi 1 := by rw [rangeSize_one]; split <;> omega
    show IsRangeIter _ _ (lo + ((0 : Nat) : Int) * 1) ((((hi - lo).toNat : Nat) : Int) - ((0 : Nat) : Int)) 1
    rw [e1, e2]
    exact Heap.get?_push_size _ rfl
  · have e : b = (s.heap.push { cls := .type "range", data := .fields #[.int lo t, .int hi u, .int 1 v] }).objs.size := by simpa using hb
    subst e
    exact I1.fpOk (Nat.le_refl _) (I1.hok.fresh (Nat.le_refl _))
def iRng1 (ta : TA) : TI := fun σ H R => ta σ H fun vs H1 => ∃ j : Int, vs = [.int j] ∧ -(2 ^ 62) ≤ j ∧ j < 2 ^ 62 ∧ R (Itr 0 j.toNat) H1
theorem pi_range1 {a : Expr} {ta : TA} {p pos : Pos} (hg : Gl X "range") (hm : X.mg "range" = none) (ha : PA X [a] ta) (hs : starEach [a] X.env = [(false, eval a X.env)] := by rfl) : PI X tg (.Call (.Name "range" p) [a] [] pos) (iRng1 ta) := by
  intro pins s σ H R I h
  refine Call_ (ld_blt I hg hm boot_range (PyProof.Rows.callWith_type1 (thn (ha pos pins s σ H _ I h) fun us s1 ⟨vs, H1, I1, r1, q1⟩ => ?_) hs rfl))
  obtain ⟨j, e, q1, q2, q⟩ := q1
  subst e
  cases r1 with
  | cons r rr =>
    cases rr
    obtain ⟨t, rfl⟩ := r
    exact call_range_1 (range_it I1 (by omega) (by omega) q1 q2 (by simpa using q))

/-! ### for -/
/-- W: the invariant by the turn and a measure; N: what the body is to reach -/
def tFor (wi : TI) (g : TG) (tb : TS) : TS := fun D σ H => wi σ H fun J H1 => ∃ W : Nat → Nat → St → Hp → Prop, (∃ m, W 0 m σ H1) ∧ ∀ i m σ H, W i m σ H →
  (J.stop i H ∧ D.nx σ H) ∨ (J.go i H ∧ ∃ N : St → Hp → Prop, (∀ σ' H', N σ' H' → ∃ m', m' < m ∧ W (i + 1) m' σ' H') ∧ ∀ x H', J.yld i H x H' → g x σ H' fun σ2 H2 => tb { D with nx := N, ct := N, bk := D.nx } σ2 H2)
/-- the records at fp as they stand -/
def pinsAt (fp : List Addr) (h : Heap) : List (Addr × Obj) := fp.filterMap fun b => (h.get? b).map fun o => (b, o)
theorem mem_pinsAt {fp : List Addr} {h : Heap} {b : Addr} {o : Obj} (hb : b ∈ fp) (e : h.get? b = some o) : (b, o) ∈ pinsAt fp h := List.mem_filterMap.mpr ⟨b, hb, by rw [e]; rfl⟩
theorem of_pinsAt {fp : List Addr} {h : Heap} {p : Addr × Obj} (hp : p ∈ pinsAt fp h) : p.1 ∈ fp ∧ h.get? p.1 = some p.2 := by
  obtain ⟨b, hb, e⟩ := List.mem_filterMap.mp hp
  cases q : h.get? b with
  | none => rw [q] at e; cases e
  | some o =>
    rw [q] at e
    have e' : (b, o) = p := Option.some.inj e
    subst e'
    exact ⟨hb, q⟩
theorem Inv.pinned {pins : List (Addr × Obj)} {σ : St} {H : Hp} {s : Shared} {fp : List Addr} (I : Inv X pins σ H s) (hf : ∀ b ∈ fp, FpOk X pins H b) (ho : ∀ b ∈ fp, ∃ o, s.heap.get? b = some o ∧ ∀ v, o.data ≠ .cell v) : Inv X (pins ++ pinsAt fp s.heap) σ H s :=
  I.pins_of fun p hp => (List.mem_append.mp hp).elim (fun z => I.pin p (List.mem_append_right _ z)) fun z => by
    obtain ⟨hb, e⟩ := of_pinsAt z
    obtain ⟨f0, f1, f2, _⟩ := hf p.1 hb
    obtain ⟨o, e', d⟩ := ho p.1 hb
    rw [e] at e'; cases e'
    exact ⟨e, f0, f1, f2, d⟩
theorem Inv.unpinned {pins pl : List (Addr × Obj)} {σ : St} {H : Hp} {s : Shared} (I : Inv X (pins ++ pl) σ H s) : Inv X pins σ H s := I.pins_of fun p hp => I.pin p (List.mem_append_right _ (List.mem_append_left _ hp))
theorem ps_for {iter : Expr} {body : List Stmt} {wi : TI} {g : TG} {tb : TS} {pos : Pos} (hp : PassesOwn (model X.prog X.w) X.A X.env X.xe) (hc : X.calm = true) (hi : PI X tg iter wi) (hg : PG X tg g) (hb : PSs X body tb)
    (hs : ∀ x, foldedSetIterable iter X.env x = pure x := by intro _; rfl) : PS X (.For tg iter body [] pos) (tFor wi g tb) := by
  intro pins s σ H D I h
  refine wpAny_For (thn (hi pins s σ H _ I h) fun v s1 h1 => thn h1 fun itv s2 h2 => ?_) hs
  obtain ⟨it, fp, tn, J, H2, e, I2, T, st2, f2, W, ⟨m0, w0⟩, turn⟩ := h2
  subst e
  -- what stays true of the iterator's objects through the loop
  have stat : ∀ {H' : Hp}, (∀ b ∈ fp, H' b = none) → ∀ b ∈ fp, FpOk X pins H' b := fun hn b hb => ⟨hn b hb, (f2 b hb).2⟩
  refine codeAny_forLoop_any (fun n s' => ∃ i σ' H', Inv X pins σ' H' s' ∧ tn i s'.heap ∧ (∀ b ∈ fp, H' b = none) ∧ W i n σ' H') ?_ m0 ⟨0, σ, H2, I2, st2, fun b hb => (f2 b hb).1, w0⟩
  rintro n s3 ⟨i, σ3, H3, I3, st3, fr3, w3⟩
  rcases turn i n σ3 H3 w3 with ⟨stop, qn⟩ | ⟨go, N, hN, step⟩
  · refine wpAny_passesOwn hp (thn (T.done X rfl rfl rfl hc i pins s3 σ3 H3 X.xe I3 (stat fr3) st3 stop) fun r s4 ⟨hr, I4⟩ => ?_)
    subst hr
    exact wpAny_execs_nil ⟨σ3, H3, I4, qn⟩
  · refine wpAny_passesOwn hp (thn (T.item X rfl rfl rfl hc i pins s3 σ3 H3 X.xe I3 (stat fr3) st3 go) fun r s4 ⟨u, hr, h4⟩ => ?_)
    subst hr
    refine wpAny_passesOwn hp (thn h4 fun _ s5 ⟨x, H5, I5, r5, y5, st5, fr5⟩ => ?_)
    have I5' := I5.pinned (stat fr5) (T.obj _ _ st5)
    refine wpAny_passesOwn hp (thn (hg _ s5 σ3 H5 x u _ I5' r5 (step x H5 y5)) fun _ s6 ⟨σ6, H6, I6, q6⟩ => ?_)
    refine wpAny_passesOwn hp (thn (hb _ s6 σ6 H6 _ I6 q6) fun f s7 q7 => ?_)
    have again : ∀ {σ7 : St} {H7 : Hp}, Inv X (pins ++ pinsAt fp s5.heap) σ7 H7 s7 → N σ7 H7 → ∃ m, m < n ∧ ∃ i σ' H', Inv X pins σ' H' s7 ∧ tn i s7.heap ∧ (∀ b ∈ fp, H' b = none) ∧ W i m σ' H' := fun {σ7 H7} I7 n7 => by
      obtain ⟨m', hm, w7⟩ := hN σ7 H7 n7
      refine ⟨m', hm, i + 1, σ7, H7, I7.unpinned, T.keep _ _ _ st5 fun b hb o e => (I7.pin (b, o) (List.mem_append_right _ (List.mem_append_right _ (mem_pinsAt hb e)))).1, fun b hb => ?_, w7⟩
      obtain ⟨o, e, d⟩ := T.obj _ _ st5 b hb
      exact (I7.pin (b, o) (List.mem_append_right _ (List.mem_append_right _ (mem_pinsAt hb e)))).2.1
    cases f with
    | next => obtain ⟨σ7, H7, I7, n7⟩ := q7; exact again I7 n7
    | cont => obtain ⟨σ7, H7, I7, n7⟩ := q7; exact again I7 n7
    | brk => obtain ⟨σ7, H7, I7, q7⟩ := q7; exact ⟨σ7, H7, I7.unpinned, q7⟩
    | ret v => obtain ⟨x7, σ7, H7, I7, r7, q7⟩ := q7; exact ⟨x7, σ7, H7, I7.unpinned, r7, q7⟩
end

/-! ### the forms one uses -/
/-- over a list that the body leaves as it is -/
theorem for_list {K : PySem.W.Frag} {a : Addr} {xs : List V} {g : TG} {tb : TS} {D : Ends} {σ : St} {H : Hp} (Pv : Nat → St → Hp → Prop) (h0 : Pv 0 σ H) (hl : ∀ i σ H, i ≤ xs.length → Pv i σ H → SqL K H a xs)
    (hs : ∀ i x σ H, xs[i]? = some x → Pv i σ H → g x σ H fun σ2 H2 => tb { D with nx := Pv (i + 1), ct := Pv (i + 1), bk := D.nx } σ2 H2) (hd : ∀ σ H, Pv xs.length σ H → D.nx σ H) :
    ∃ W : Nat → Nat → St → Hp → Prop, (∃ m, W 0 m σ H) ∧ ∀ i m σ H, W i m σ H →
      ((Itl K a).stop i H ∧ D.nx σ H) ∨ ((Itl K a).go i H ∧ ∃ N : St → Hp → Prop, (∀ σ' H', N σ' H' → ∃ m', m' < m ∧ W (i + 1) m' σ' H') ∧ ∀ x H', (Itl K a).yld i H x H' → g x σ H' fun σ2 H2 => tb { D with nx := N, ct := N, bk := D.nx } σ2 H2) := by
  refine ⟨fun i m σ H => m = xs.length - i ∧ i ≤ xs.length ∧ Pv i σ H, ⟨xs.length, by simp, Nat.zero_le _, h0⟩, ?_⟩
  rintro i m σ H ⟨rfl, hi, p⟩
  have q := hl i σ H hi p
  by_cases hlt : i < xs.length
  · refine .inr ⟨⟨xs, xs[i], q, by simp [hlt]⟩, Pv (i + 1), fun σ' H' p' => ⟨xs.length - (i + 1), by omega, rfl, hlt, p'⟩, fun x H' y => ?_⟩
    obtain ⟨e, y⟩ := y
    subst e
    exact hs i x σ _ (y xs q) p
  · have e : i = xs.length := by omega
    subst e
    exact .inl ⟨⟨xs, q, Nat.le_refl _⟩, hd σ H p⟩
theorem for_tup {K : PySem.W.Frag} {a : Addr} {xs : List V} {g : TG} {tb : TS} {D : Ends} {σ : St} {H : Hp} (Pv : Nat → St → Hp → Prop) (h0 : Pv 0 σ H) (hl : ∀ i σ H, i ≤ xs.length → Pv i σ H → SqT K H a xs)
    (hs : ∀ i x σ H, xs[i]? = some x → Pv i σ H → g x σ H fun σ2 H2 => tb { D with nx := Pv (i + 1), ct := Pv (i + 1), bk := D.nx } σ2 H2) (hd : ∀ σ H, Pv xs.length σ H → D.nx σ H) :
    ∃ W : Nat → Nat → St → Hp → Prop, (∃ m, W 0 m σ H) ∧ ∀ i m σ H, W i m σ H →
      ((Itt K a).stop i H ∧ D.nx σ H) ∨ ((Itt K a).go i H ∧ ∃ N : St → Hp → Prop, (∀ σ' H', N σ' H' → ∃ m', m' < m ∧ W (i + 1) m' σ' H') ∧ ∀ x H', (Itt K a).yld i H x H' → g x σ H' fun σ2 H2 => tb { D with nx := N, ct := N, bk := D.nx } σ2 H2) := by
  refine ⟨fun i m σ H => m = xs.length - i ∧ i ≤ xs.length ∧ Pv i σ H, ⟨xs.length, by simp, Nat.zero_le _, h0⟩, ?_⟩
  rintro i m σ H ⟨rfl, hi, p⟩
  have q := hl i σ H hi p
  by_cases hlt : i < xs.length
  · refine .inr ⟨⟨xs, xs[i], q, by simp [hlt]⟩, Pv (i + 1), fun σ' H' p' => ⟨xs.length - (i + 1), by omega, rfl, hlt, p'⟩, fun x H' y => ?_⟩
    obtain ⟨e, y⟩ := y
    subst e
    exact hs i x σ _ (y xs q) p
  · have e : i = xs.length := by omega
    subst e
    exact .inl ⟨⟨xs, q, Nat.le_refl _⟩, hd σ H p⟩
theorem for_range {lo : Int} {n : Nat} {g : TG} {tb : TS} {D : Ends} {σ : St} {H : Hp} (Pv : Nat → St → Hp → Prop) (h0 : Pv 0 σ H)
    (hs : ∀ i σ H, i < n → Pv i σ H → g (.int (lo + i)) σ H fun σ2 H2 => tb { D with nx := Pv (i + 1), ct := Pv (i + 1), bk := D.nx } σ2 H2) (hd : ∀ σ H, Pv n σ H → D.nx σ H) :
    ∃ W : Nat → Nat → St → Hp → Prop, (∃ m, W 0 m σ H) ∧ ∀ i m σ H, W i m σ H →
      ((Itr lo n).stop i H ∧ D.nx σ H) ∨ ((Itr lo n).go i H ∧ ∃ N : St → Hp → Prop, (∀ σ' H', N σ' H' → ∃ m', m' < m ∧ W (i + 1) m' σ' H') ∧ ∀ x H', (Itr lo n).yld i H x H' → g x σ H' fun σ2 H2 => tb { D with nx := N, ct := N, bk := D.nx } σ2 H2) := by
  refine ⟨fun i m σ H => m = n - i ∧ i ≤ n ∧ Pv i σ H, ⟨n, by simp, Nat.zero_le _, h0⟩, ?_⟩
  rintro i m σ H ⟨rfl, hi, p⟩
  by_cases hlt : i < n
  · refine .inr ⟨hlt, Pv (i + 1), fun σ' H' p' => ⟨n - (i + 1), by omega, rfl, hlt, p'⟩, fun x H' y => ?_⟩
    obtain ⟨e, y⟩ := y
    subst e y
    exact hs i σ _ hlt p
  · have e : i = n := by omega
    subst e
    exact .inl ⟨Nat.le_refl _, hd σ H p⟩
end L2

namespace L2
open PySem PySem.Spec PyProof.Rows

abbrev R2 := V → V → Hp → VK → Prop
/-- a two-place operation on values: f is binaryOp op, inplaceOp op or compareOp op -/
def OpR (X : Cx) (f : Value → Value → Sem Value) (r : R2) : Prop :=
  ∀ (pins : List (Addr × Obj)) (s : Shared) (σ : St) (H : Hp) (x y : V) (v u : Value) (Q : VK), Inv X pins σ H s → RelV x v → RelV y u → r x y H Q →
    wpAny (model X.prog X.w) X.A (f v u) (EP X pins σ Q) X.xe s
/-- a call of a value that is known (a builtin, a type) with values -/
def CallR (X : Cx) (f : Value) (r : List V → Hp → VK → Prop) : Prop :=
  ∀ (pins : List (Addr × Obj)) (s : Shared) (σ : St) (H : Hp) (xs : List V) (us : List Value) (Q : VK), Inv X pins σ H s → Vals xs us → r xs H Q →
    wpAny (model X.prog X.w) X.A (call f us) (EP X pins σ Q) X.xe s

def tOp (r : R2) (ta tb : TE) : TE := fun σ H Q => ta σ H fun x H1 => tb σ H1 fun y H2 => r x y H2 Q
/-- ints in, under C, and a value out -/
def rI (C : Int → Int → Prop) (g : Int → Int → V) : R2 := fun x y H Q => ∃ i j, x = .int i ∧ y = .int j ∧ C i j ∧ Q (g i j) H
def rI0 (g : Int → Int → V) : R2 := fun x y H Q => ∃ i j, x = .int i ∧ y = .int j ∧ Q (g i j) H

section
variable {X : Cx} {a b c : Expr} {ta tb tc : TE} {pos : Pos}

theorem binT (ha : PE X a ta) (hb : PE X b tb) {pins : List (Addr × Obj)} {s : Shared} {σ : St} {H : Hp} {R : V → V → Hp → Prop} (I : Inv X pins σ H s)
    (h : ta σ H fun x H1 => tb σ H1 fun y H2 => R x y H2) {Q : Value → Shared → Prop} {f : Value → Value → Sem Value}
    (hf : ∀ v u s2 x y H2, Inv X pins σ H2 s2 → RelV x v → RelV y u → R x y H2 → wpAny (model X.prog X.w) X.A (f v u) Q X.xe s2) :
    wpAny (model X.prog X.w) X.A (eval a X.env) (fun v s₁ => wpAny (model X.prog X.w) X.A (eval b X.env) (fun u s₂ => wpAny (model X.prog X.w) X.A (f v u) Q X.xe s₂) X.xe s₁) X.xe s := by
  refine thn (ha pins s σ H _ I h) fun v s1 ⟨x, H1, I1, r1, q1⟩ => ?_
  refine thn (hb pins s1 σ H1 _ I1 q1) fun u s2 ⟨y, H2, I2, r2, q2⟩ => ?_
  exact hf v u s2 x y H2 I2 r1 r2 q2

theorem pe_op {op : Operator} {r : R2} (ho : OpR X (binaryOp op) r) (ha : PE X a ta) (hb : PE X b tb) : PE X (.BinOp a op b pos) (tOp r ta tb) := by
  intro pins s σ H Q I h
  exact wpAny_BinOp (binT ha hb I h fun v u s2 x y H2 I2 rx ry q => ho pins s2 σ H2 x y v u Q I2 rx ry q)

/-! ### ints -/
theorem opI {f : Value → Value → Sem Value} {C : Int → Int → Prop} {g : Int → Int → Int}
    (rule : ∀ (i j : Int) (t u : Tok) (s : Shared) (Q : Value → Shared → Prop) (E : Value → Shared → Prop), C i j → Q (.int (g i j) s.toks) { s with toks := s.toks + 1 } → wpAny (model X.prog X.w) X.A (f (.int i t) (.int j u)) Q E s) :
    OpR X f (rI C fun i j => .int (g i j)) := by
  intro pins s σ H x y v u Q I rx ry h
  obtain ⟨i, j, rfl, rfl, hc, q⟩ := h
  obtain ⟨t, rfl⟩ := rx
  obtain ⟨t', rfl⟩ := ry
  exact rule i j t t' s _ _ hc ⟨.int (g i j), H, I.tok _, ⟨_, rfl⟩, q⟩
theorem opI0 {f : Value → Value → Sem Value} {g : Int → Int → Int}
    (rule : ∀ (i j : Int) (t u : Tok) (s : Shared) (Q : Value → Shared → Prop) (E : Value → Shared → Prop), Q (.int (g i j) s.toks) { s with toks := s.toks + 1 } → wpAny (model X.prog X.w) X.A (f (.int i t) (.int j u)) Q E s) :
    OpR X f (rI0 fun i j => .int (g i j)) := by
  intro pins s σ H x y v u Q I rx ry h
  obtain ⟨i, j, rfl, rfl, q⟩ := h
  obtain ⟨t, rfl⟩ := rx
  obtain ⟨t', rfl⟩ := ry
  exact rule i j t t' s _ _ ⟨.int (g i j), H, I.tok _, ⟨_, rfl⟩, q⟩
theorem opB0 {f : Value → Value → Sem Value} {g : Int → Int → Bool}
    (rule : ∀ (i j : Int) (t u : Tok) (s : Shared) (Q : Value → Shared → Prop) (E : Value → Shared → Prop), Q (.bool (g i j)) s → wpAny (model X.prog X.w) X.A (f (.int i t) (.int j u)) Q E s) :
    OpR X f (rI0 fun i j => .bl (g i j)) := by
  intro pins s σ H x y v u Q I rx ry h
  obtain ⟨i, j, rfl, rfl, q⟩ := h
  obtain ⟨t, rfl⟩ := rx
  obtain ⟨t', rfl⟩ := ry
  exact rule i j t t' s _ _ ⟨.bl (g i j), H, I, rfl, q⟩

def CDiv (i j : Int) : Prop := 0 < j ∧ j < 1073741824
def CPow (i j : Int) : Prop := 0 ≤ j ∧ j ≤ 1000000 ∧ i.natAbs < 2 ^ 64
def CMul (i j : Int) : Prop := (-(2 ^ 64) < i ∧ i < 2 ^ 64) ∨ (-(2 ^ 64) < j ∧ j < 2 ^ 64)
theorem CMul.ok {i j : Int} (h : CMul i j) : IntMulOk i j := by
  rcases h with ⟨h1, h2⟩ | ⟨h1, h2⟩
  · exact .of_left (intBits_le_64 h1 h2)
  · exact .of_right (intBits_le_64 h1 h2)

theorem op_add : OpR X (binaryOp .Add) (rI0 fun i j => .int (i + j)) := opI0 fun _ _ _ _ _ _ _ q => add_int q
theorem op_sub : OpR X (binaryOp .Sub) (rI0 fun i j => .int (i - j)) := opI0 fun _ _ _ _ _ _ _ q => sub_int q
theorem op_mul : OpR X (binaryOp .Mult) (rI CMul fun i j => .int (i * j)) := opI fun _ _ _ _ _ _ _ hc q => mul_int q hc.ok
/-- // by a positive divisor -/
theorem op_fdiv : OpR X (binaryOp .FloorDiv) (rI CDiv fun i j => .int (i / j)) := opI fun i j _ _ _ _ _ hc q => by
  have h1 : (0 : Int) < j := hc.1
  have h2 : j < 1073741824 := hc.2
  exact floordiv_int (by omega) (by rw [Int.fdiv_eq_ediv_of_nonneg i (by omega)]; exact q) (.inl (PyProof.noPylong_small (by omega)))
/-- % by a positive divisor of any size -/
theorem op_mod : OpR X (binaryOp .Mod) (rI (fun _ j => 0 < j) fun i j => .int (i % j)) := opI fun i j _ _ _ _ _ hc q => by
  have h1 : (0 : Int) < j := hc
  exact mod_int' (by omega) (by rw [Int.fmod_eq_emod_of_nonneg i (by omega)]; exact q)
theorem op_pow : OpR X (binaryOp .Pow) (rI CPow fun i j => .int (i ^ j.toNat)) := opI fun _ _ _ _ _ _ _ hc q => pow_int_small hc.1 hc.2.1 hc.2.2 q

/-! ### bools among ints: n += (a < b) -/
end

/-! ### comparisons -/
/-- the scalars that == tells apart as data does -/
def scal : V → V → Bool
  | .non, .non => true | .non, .int _ => true | .int _, .non => true | .non, .bl _ => true | .bl _, .non => true | .non, .str _ => true | .str _, .non => true
  | .int _, .int _ => true | .bl _, .bl _ => true | .str _, .str _ => true | .byt _, .byt _ => true
  | .int _, .str _ => true | .str _, .int _ => true | .bl _, .str _ => true | .str _, .bl _ => true
  | _, _ => false
def rEq : R2 := fun x y H Q => scal x y = true ∧ Q (.bl (decide (x = y))) H
def rNe : R2 := fun x y H Q => scal x y = true ∧ Q (.bl (!decide (x = y))) H

theorem dec_int {i j : Int} : decide (V.int i = V.int j) = (i == j) := by
  rw [Bool.eq_iff_iff]
  simp
theorem dec_bl {i j : Bool} : decide (V.bl i = V.bl j) = (i == j) := by
  rw [Bool.eq_iff_iff]
  simp
theorem dec_str {i j : Str} : decide (V.str i = V.str j) = (i == j) := by
  rw [Bool.eq_iff_iff]
  simp
theorem dec_byt {i j : Array UInt8} : decide (V.byt i = V.byt j) = (i.toList == j.toList) := by
  rw [Bool.eq_iff_iff]
  cases i
  cases j
  simp

section
variable {X : Cx} {a b c : Expr} {ta tb tc : TE} {pos : Pos}
theorem fin_bl {pins : List (Addr × Obj)} {σ : St} {H : Hp} {s : Shared} {Q : VK} {k k' : Bool} (I : Inv X pins σ H s) (q : Q (.bl k) H) (e : k = k') : EP X pins σ Q (.bool k') s := by
  subst e
  exact ⟨.bl k, H, I, rfl, q⟩
theorem op_eq : OpR X (compareOp .Eq) rEq := by
  intro pins s σ H x y v u Q I rx ry h
  obtain ⟨hs, q⟩ := h
  cases x with
  | non =>
    cases rx
    cases y with
    | non => cases ry; exact PySem.EqNone.eq_none_none (fin_bl I q (by simp))
    | bl j => cases ry; exact PySem.EqNone.eq_none_bool (fin_bl I q (by simp))
    | int j => obtain ⟨t', rfl⟩ := ry; exact PySem.EqNone.eq_none_int (fin_bl I q (by simp))
    | str j => obtain ⟨t', rfl⟩ := ry; exact PySem.EqNone.eq_none_str (fin_bl I q (by simp))
    | _ => exact absurd (show false = true from hs) Bool.false_ne_true
  | bl i =>
    cases rx
    cases y with
    | non => cases ry; exact PySem.EqNone.eq_bool_none (fin_bl I q (by simp))
    | bl j => cases ry; exact eq_bool (fin_bl I q dec_bl)
    | str j => obtain ⟨t', rfl⟩ := ry; exact PySem.EqMixed.eq_bool_str (fin_bl I q (by simp))
    | _ => exact absurd (show false = true from hs) Bool.false_ne_true
  | int i =>
    obtain ⟨t, rfl⟩ := rx
    cases y with
    | non => cases ry; exact PySem.EqNone.eq_int_none (fin_bl I q (by simp))
    | int j => obtain ⟨t', rfl⟩ := ry; exact eq_int (fin_bl I q dec_int)
    | str j => obtain ⟨t', rfl⟩ := ry; exact PySem.EqMixed.eq_int_str (fin_bl I q (by simp))
    | _ => exact absurd (show false = true from hs) Bool.false_ne_true
  | str i =>
    obtain ⟨t, rfl⟩ := rx
    cases y with
    | non => cases ry; exact PySem.EqNone.eq_str_none (fin_bl I q (by simp))
    | bl j => cases ry; exact PySem.EqMixed.eq_str_bool (fin_bl I q (by simp))
    | int j => obtain ⟨t', rfl⟩ := ry; exact PySem.EqMixed.eq_str_int (fin_bl I q (by simp))
    | str j => obtain ⟨t', rfl⟩ := ry; exact eq_str (fin_bl I q dec_str)
    | _ => exact absurd (show false = true from hs) Bool.false_ne_true
  | byt i =>
    obtain ⟨t, rfl⟩ := rx
    cases y with
    | byt j => obtain ⟨t', rfl⟩ := ry; exact PySem.W.eq_bytes (fin_bl I q dec_byt)
    | _ => exact absurd (show false = true from hs) Bool.false_ne_true
  | _ => cases y <;> exact absurd (show false = true from hs) Bool.false_ne_true
theorem op_ne : OpR X (compareOp .NotEq) rNe := by
  intro pins s σ H x y v u Q I rx ry h
  obtain ⟨hs, q⟩ := h
  cases x with
  | non =>
    cases rx
    cases y with
    | non => cases ry; exact PySem.EqNone.ne_none_none (fin_bl I q (by simp))
    | bl j => cases ry; exact PySem.EqNone.ne_none_bool (fin_bl I q (by simp))
    | int j => obtain ⟨t', rfl⟩ := ry; exact PySem.EqNone.ne_none_int (fin_bl I q (by simp))
    | str j => obtain ⟨t', rfl⟩ := ry; exact PySem.EqNone.ne_none_str (fin_bl I q (by simp))
    | _ => exact absurd (show false = true from hs) Bool.false_ne_true
  | bl i =>
    cases rx
    cases y with
    | non => cases ry; exact PySem.EqNone.ne_bool_none (fin_bl I q (by simp))
    | bl j => cases ry; exact ne_bool (fin_bl I q (congrArg not dec_bl))
    | str j => obtain ⟨t', rfl⟩ := ry; exact PySem.EqMixed.ne_bool_str (fin_bl I q (by simp))
    | _ => exact absurd (show false = true from hs) Bool.false_ne_true
  | int i =>
    obtain ⟨t, rfl⟩ := rx
    cases y with
    | non => cases ry; exact PySem.EqNone.ne_int_none (fin_bl I q (by simp))
    | int j => obtain ⟨t', rfl⟩ := ry; exact ne_int (fin_bl I q (congrArg not dec_int))
    | str j => obtain ⟨t', rfl⟩ := ry; exact PySem.EqMixed.ne_int_str (fin_bl I q (by simp))
    | _ => exact absurd (show false = true from hs) Bool.false_ne_true
  | str i =>
    obtain ⟨t, rfl⟩ := rx
    cases y with
    | non => cases ry; exact PySem.EqNone.ne_str_none (fin_bl I q (by simp))
    | bl j => cases ry; exact PySem.EqMixed.ne_str_bool (fin_bl I q (by simp))
    | int j => obtain ⟨t', rfl⟩ := ry; exact PySem.EqMixed.ne_str_int (fin_bl I q (by simp))
    | str j => obtain ⟨t', rfl⟩ := ry; exact ne_str (fin_bl I q (congrArg not dec_str))
    | _ => exact absurd (show false = true from hs) Bool.false_ne_true
  | byt i =>
    obtain ⟨t, rfl⟩ := rx
    cases y with
    | byt j => obtain ⟨t', rfl⟩ := ry; exact PySem.W.ne_bytes (fin_bl I q (congrArg not dec_byt))
    | _ => exact absurd (show false = true from hs) Bool.false_ne_true
  | _ => cases y <;> exact absurd (show false = true from hs) Bool.false_ne_true

theorem op_lt : OpR X (compareOp .Lt) (rI0 fun i j => .bl (decide (i < j))) := opB0 fun _ _ _ _ _ _ _ q => lt_int q
theorem op_le : OpR X (compareOp .LtE) (rI0 fun i j => .bl (decide (i ≤ j))) := opB0 fun _ _ _ _ _ _ _ q => le_int q
theorem op_gt : OpR X (compareOp .Gt) (rI0 fun i j => .bl (decide (j < i))) := opB0 fun _ _ _ _ _ _ _ q => gt_int q

/-- is None, is not None: the right side a value none -/
theorem op_isN : OpR X (compareOp .Is) (fun x y H Q => y = .non ∧ Q (.bl (decide (x = .non))) H) := by
  intro pins s σ H x y v u Q I rx ry h
  obtain ⟨rfl, q⟩ := h
  cases ry
  refine is_none_gen (fin_bl I q ?_)
  cases x <;> first
    | (cases rx; rfl)
    | (obtain ⟨t, rfl⟩ := rx; rfl)
theorem op_notN : OpR X (compareOp .IsNot) (fun x y H Q => y = .non ∧ Q (.bl (!decide (x = .non))) H) := by
  intro pins s σ H x y v u Q I rx ry h
  obtain ⟨rfl, q⟩ := h
  cases ry
  refine isnot_none_gen (fin_bl I q ?_)
  cases x <;> first
    | (cases rx; rfl)
    | (obtain ⟨t, rfl⟩ := rx; rfl)

theorem nomark (b : Expr) {op : CmpOp} (h : op ≠ .In := by decide) (h2 : op ≠ .NotIn := by decide) : behindInMarks op b = false := by
  have e1 : (op == CmpOp.In) = false := by cases op <;> first | rfl | exact absurd rfl h
  have e2 : (op == CmpOp.NotIn) = false := by cases op <;> first | rfl | exact absurd rfl h2
  cases b <;> simp [behindInMarks, e1, e2]
/-- a comparison as a value; hm: nomark b, or (for in, not in) by with_unfolding_all rfl -/
theorem pe_cmpR {op : CmpOp} {r : R2} (ho : OpR X (compareOp op) r) (ha : PE X a ta) (hb : PE X b tb) (hm : behindInMarks op b = false) : PE X (.Compare a [op] [b] pos) (tOp r ta tb) := by
  intro pins s σ H Q I h
  exact wpAny_Compare1 (binT ha hb I h fun v u s2 x y H2 I2 rx ry q => ho pins s2 σ H2 x y v u Q I2 rx ry q) hm
/-- a reading of a value as a test -/
def tTest (t : TE) : TT := fun σ H Q => t σ H fun x H' => ∃ k, x = .bl k ∧ Q k H'
theorem pt_cmpR {op : CmpOp} {r : R2} (ho : OpR X (compareOp op) r) (ha : PE X a ta) (hb : PE X b tb) (hm : behindInMarks op b = false) : PT X (.Compare a [op] [b] pos) (tTest (tOp r ta tb)) := by
  intro pins s σ H Q I h
  refine wpAny_isTrue_Compare1 (thn (ha pins s σ H _ I h) fun v s1 ⟨x, H1, I1, r1, q1⟩ => thn (hb pins s1 σ H1 _ I1 q1) fun u s2 ⟨y, H2, I2, r2, q2⟩ =>
    thn (ho pins s2 σ H2 x y v u _ I2 r1 r2 q2) fun c s3 ⟨z, H3, I3, r3, k, e, q3⟩ => ?_) hm
  subst e
  cases r3
  exact wpAny_truthy_bool ⟨H3, I3, q3⟩

/-! ### truth -/
theorem line63 : (sizeLine : Nat) < 2 ^ 63 := by rw [sizeLine_eq]; decide

/-! ### strs and bytes -/
theorem op_add_str : OpR X (binaryOp .Add) (fun x y H Q => ∃ i j, x = .str i ∧ y = .str j ∧ i.length + j.length ≤ sizeLine ∧ Q (.str (i ++ j)) H) := by
  intro pins s σ H x y v u Q I rx ry h
  obtain ⟨i, j, rfl, rfl, hz, q⟩ := h
  obtain ⟨t, rfl⟩ := rx
  obtain ⟨t', rfl⟩ := ry
  exact add_str (fun t' tk => ⟨.str (i ++ j), H, I.tok _, ⟨_, rfl⟩, q⟩) hz

/-! ### scalar builtins, by CallR -/
theorem vals1 {x : V} {us : List Value} (r : Vals [x] us) : ∃ u, us = [u] ∧ RelV x u := by
  cases r with
  | cons r1 r2 => cases r2; exact ⟨_, rfl, r1⟩
theorem vals2 {x y : V} {us : List Value} (r : Vals [x, y] us) : ∃ u w', us = [u, w'] ∧ RelV x u ∧ RelV y w' := by
  cases r with
  | cons r1 r2 =>
    cases r2 with
    | cons r3 r4 => cases r4; exact ⟨_, _, rfl, r1, r3⟩
theorem call_max2 (hc : X.calm = true) : CallR X (.builtin "max") (fun xs H Q => ∃ i j, xs = [.int i, .int j] ∧ Q (.int (if j > i then j else i)) H) := by
  intro pins s σ H xs us Q I r h
  obtain ⟨i, j, rfl, q⟩ := h
  obtain ⟨u, w', rfl, ⟨t, rfl⟩, ⟨t', rfl⟩⟩ := vals2 r
  refine max_two_ints (I.ok.hd hc) fun h' tk k => ⟨_, H, I.kept k, ?_, q⟩
  by_cases hj : j > i
  · rw [if_pos hj, if_pos hj]; exact ⟨_, rfl⟩
  · rw [if_neg hj, if_neg hj]; exact ⟨_, rfl⟩
theorem call_int1 : CallR X (.type "int") (fun xs H Q => (∃ i, xs = [.int i] ∧ Q (.int i) H) ∨ ∃ k, xs = [.bl k] ∧ Q (.int (if k then 1 else 0)) H) := by
  intro pins s σ H xs us Q I r h
  rcases h with ⟨i, rfl, q⟩ | ⟨k, rfl, q⟩
  · obtain ⟨u, rfl, t, rfl⟩ := vals1 r
    exact call_int_int ⟨.int i, H, I, ⟨_, rfl⟩, q⟩
  · obtain ⟨u, rfl, r1⟩ := vals1 r
    cases r1
    exact call_int_bool ⟨.int (if k then 1 else 0), H, I.tok _, ⟨_, rfl⟩, q⟩
end
end L2

namespace L2
open PySem PySem.Spec PyProof.Rows

/-! ### an instance, its attributes a map -/
structure ObjM (h : Heap) (x dx C : Addr) (mA : Str → Option Value) : Prop where
  obj : h.get? x = some (PySem.W.instObj C dx)
  ns : h.Ns1 dx mA
  ne : dx ≠ x

theorem lookIn_ns {h : Heap} {dx : Addr} {mA : Str → Option Value} (n : h.Ns1 dx mA) : ∃ od, h.get? dx = some od ∧ ∀ name, PySem.W.lookIn name od = some (mA name) := by
  obtain ⟨o, es, ep, ho, hd, hk, _, hm⟩ := n
  refine ⟨o, ho, fun name => ?_⟩
  have e := hm name
  unfold nsFind findBy at e
  rw [← Array.find?_toList] at e
  unfold PySem.W.lookIn
  rw [hd]
  dsimp only
  split
  · rename_i y q
    rw [q] at e
    exact congrArg some e
  · rename_i q
    rw [q] at e
    have a : es.toList.any (·.refKey) = false := by
      rw [List.any_eq_false]
      intro y hy
      obtain ⟨z, t, hkey⟩ := hk y (Array.mem_toList_iff.mp hy)
      simp [DictEntry.refKey, hkey]
    have a' : ¬ es.toList.any (·.refKey) = true := by rw [a]; exact Bool.false_ne_true
    rw [if_neg a']
    exact congrArg some e

theorem ObjM.look {h : Heap} {x dx C : Addr} {mA : Str → Option Value} (I : ObjM h x dx C mA) : ∃ od, PySem.W.InstAt h x (PySem.W.instObj C dx) C (some od) ∧ ∀ name, PySem.W.lookIn name od = some (mA name) :=
  let ⟨od, ho, hl⟩ := lookIn_ns I.ns
  ⟨od, ⟨I.obj, rfl, rfl, ho⟩, hl⟩

section
variable {prog : Program} {w : World} {A : Around} {E : Value → Shared → Prop} {s : Shared} {K : PySem.W.Frag} {x dx C f : Addr} {mA : Str → Option Value} {name : Str} {v : Value}

end

/-! ### the attributes as a list of pairs -/

theorem RelO.some_of {v : V} {o : Option Value} (r : RelO (some v) o) : ∃ u, o = some u ∧ RelV v u := by
  cases o with
  | none => exact (show False from r).elim
  | some u => exact ⟨u, rfl, r⟩

section
variable {P : Program} {w : World} {H H' : Hp} {h h' : Heap} {a C dx : Addr} {fs fs' : List (Str × V)}
theorem ins_get (hok : HOk P w H h) (e : H a = some (.ins C dx fs)) : ∃ mA, ObjM h a dx C mA ∧ (∀ f, RelO (fs.lookup f) (mA f)) ∧ PySem.Within mA (fs.map (·.1)) ∧ fs.length ≤ 1000 ∧ H dx = some (.own a) := by
  obtain ⟨d, z, ne, ob, mA, n, r, q⟩ := (show ObjOk P w H h a (.ins C dx fs) from hok a _ e)
  exact ⟨mA, ⟨ob, n, ne⟩, r, q, z, d⟩
end

/-! ### what of the text a class must have -/
structure Cls (K : PySem.W.Frag) (C : Addr) : Prop where
  pg : PySem.W.plainGet K C Str.empty = true
  hd : PySem.W.hasDictIn K C = true
  po : PySem.W.plainOver K C = true
  sa : PySem.W.findIn K (.ref C) "__setattr__" = some (some (.builtin "object.__setattr__"))
theorem Cls.get {K : PySem.W.Frag} {C : Addr} (c : Cls K C) (f : Str) : PySem.W.plainGet K C f = true := c.pg

section
variable {X : Cx} {pins : List (Addr × Obj)} {σ : St} {H : Hp} {s : Shared} {a C dx : Addr} {fs : List (Str × V)} {f : Str} {v : V} {A : Around} {E : Value → Shared → Prop}

end

/-! ### readings and rules -/

section
variable {X : Cx} {o e value : Expr} {f : Str} {pos pos' tpos : Pos} {ta tv : TE}

end

/-! ### isinstance -/
section
variable {X : Cx} {pins : List (Addr × Obj)} {σ : St} {H : Hp} {s : Shared} {A : Around} {E : Value → Shared → Prop} {Q : Value → Shared → Prop} {c : Value} {b : Bool}
/-- the type of a value, as the fragment's deciders take it; for an instance its class -/
inductive TyOf (K : PySem.W.Frag) (H : Hp) : V → Value → Prop where
  | non : TyOf K H .non (.type "NoneType")
  | bl (x : Bool) : TyOf K H (.bl x) (.type "bool")
  | int (i : Int) : TyOf K H (.int i) (.type "int")
  | str (x : Str) : TyOf K H (.str x) (.type "str")
  | flt (x : UInt64) : TyOf K H (.flt x) (.type "float")
  | lst {a : Addr} {xs : List V} (e : H a = some (.lst xs)) : TyOf K H (.ref a) (.type "list")
  | frz {a : Addr} {o : Obj} {xs : List V} (e : H a = some (.frz o (.lst xs))) : TyOf K H (.ref a) (.type "list")
  | tup {a : Addr} {xs : List V} (e : H a = some (.tup xs)) : TyOf K H (.ref a) (.type "tuple")
  | dK {a : Addr} {kvs : List (Key × V)} (e : H a = some (.dK kvs)) : TyOf K H (.ref a) (.type "dict")
  | dT {a : Addr} {kvs : List (List Key × V)} (e : H a = some (.dT kvs)) : TyOf K H (.ref a) (.type "dict")
  | ins {a C dx : Addr} {fs : List (Str × V)} (e : H a = some (.ins C dx fs)) (cl : Cls K C) (ha : PySem.W.findIn K (.ref C) "__class__" = some (some (.builtin "object.__class__")))
      (hn : PySem.W.specialIn K (.builtin "object.__class__") "__get__" = some (some (.builtin "getset_descriptor.__get__"))) (htk : PySem.W.takesIn K (.builtin "object.__class__") = some true)
      (hm : PySem.W.mroIn K C (.type "object") = some true) : TyOf K H (.ref a) (.ref C)
/-- isinstance(x, c) for one class c, a built-in or an own one: kitOne's answer -/
theorem isinst_ok {x : V} {u t : Value} (I : Inv X pins σ H s) (rx : RelV x u) (ty : TyOf X.K H x t) (e : PySem.W.kitOne X.K t c = some b) (h : ∀ tk, Q (.bool b) { s with toks := tk }) :
    wpAny (model X.prog X.w) A (call (.builtin "isinstance") [u, c]) Q E s := by
  cases ty with
  | non => cases (show u = Value.none from rx); exact PySem.W.kia_one PySem.W.kitx_none I.kIn True.intro e (fun z => nomatch z) h
  | bl y => cases (show u = Value.bool y from rx); exact PySem.W.kia_one PySem.W.kitx_bool I.kIn True.intro e (fun z => nomatch z) h
  | int i => obtain ⟨t, q⟩ := (show ∃ t, u = Value.int i t from rx); cases q; exact PySem.W.kia_one PySem.W.kitx_int I.kIn True.intro e (fun z => nomatch z) h
  | str y => obtain ⟨t, q⟩ := (show ∃ t, u = Value.str y t from rx); cases q; exact PySem.W.kia_one PySem.W.kitx_str I.kIn True.intro e (fun z => nomatch z) h
  | flt y => obtain ⟨t, q⟩ := (show ∃ t, u = Value.float y t from rx); cases q; exact PySem.W.kia_one PySem.W.kitx_float I.kIn True.intro e (fun z => nomatch z) h
  | @lst a xs ea =>
    cases (show u = Value.ref a from rx)
    obtain ⟨_, _, n, _, h1⟩ := (show ObjOk X.prog X.w H s.heap a (.lst xs) from I.hok a _ ea)
    exact PySem.W.kia_one PySem.W.kitx_list I.kIn ⟨_, h1, rfl⟩ e (fun z => nomatch z) h
  | @frz a ob xs ea =>
    cases (show u = Value.ref a from rx)
    obtain ⟨_, _, _, n, _, h1⟩ := (show ObjOk X.prog X.w H s.heap a (.frz ob (.lst xs)) from I.hok a _ ea)
    exact PySem.W.kia_one PySem.W.kitx_list I.kIn ⟨_, h1, rfl⟩ e (fun z => nomatch z) h
  | @tup a xs ea =>
    cases (show u = Value.ref a from rx)
    obtain ⟨_, _, _, p⟩ := (show ObjOk X.prog X.w H s.heap a (.tup xs) from I.hok a _ ea)
    obtain ⟨⟨o, h1, h2, _⟩, _⟩ := p
    exact PySem.W.kia_one PySem.W.kitx_tuple I.kIn ⟨o, h1, h2⟩ e (fun z => nomatch z) h
  | @dK a kvs ea =>
    cases (show u = Value.ref a from rx)
    obtain ⟨_, _, vs, _, p⟩ := (show ObjOk X.prog X.w H s.heap a (.dK kvs) from I.hok a _ ea)
    obtain ⟨o, es, ep, h1, h2, _⟩ := p
    exact PySem.W.kia_one PySem.W.kitx_dict I.kIn ⟨o, h1, h2.1⟩ e (fun z => nomatch z) h
  | @dT a kvs ea =>
    cases (show u = Value.ref a from rx)
    obtain ⟨_, _, xs, _, o, es, ep, h1, h2, _⟩ := (show ObjOk X.prog X.w H s.heap a (.dT kvs) from I.hok a _ ea)
    exact PySem.W.kia_one PySem.W.kitx_dict I.kIn ⟨o, h1, h2.1⟩ e (fun z => nomatch z) h
  | @ins a C dx fs ea cl ha hn htk hm =>
    cases (show u = Value.ref a from rx)
    obtain ⟨mA, O, _⟩ := ins_get I.hok ea
    obtain ⟨od, J, _⟩ := O.look
    exact PySem.W.kia_one (PySem.W.kitx_own (cl.get _) cl.hd ha hn htk hm) I.kIn J e (fun z => nomatch z) h
end
end L2

namespace L2
open PySem PySem.Spec PyProof.Rows

/-! ### room -/
structure Room (k : Nat) (A : Around) : Prop where
  hd : A.handled = none
  dp : A.depth + 3 * k + 5 < recursionLimit
  un : A.units + 16 * k + 200 < cLine
theorem Room.mono {j k : Nat} {A : Around} (r : Room k A) (h : j ≤ k) : Room j A := ⟨r.hd, by have := r.dp; omega, by have := r.un; omega⟩
theorem Room.deeper {k : Nat} {A : Around} (r : Room (k + 1) A) (env : Env) : Room k (A.deeper env) :=
  ⟨r.hd, by have := r.dp; show A.depth + 1 + 3 * k + 5 < _; omega, by have := r.un; show A.units + 3 + 16 * k + 200 < _; omega⟩
theorem Room.depth {k : Nat} {A : Around} (r : Room k A) : A.depth < recursionLimit := by have := r.dp; omega
theorem Room.units {k : Nat} {A : Around} (r : Room k A) : A.units + 64 < cLine := by have := r.un; omega

/-! ### argument lists and displays -/
def tNil : TA := fun _ H Q => Q [] H
def tCons (ta : TE) (tr : TA) : TA := fun σ H Q => ta σ H fun x H1 => tr σ H1 fun xs H2 => Q (x :: xs) H2
section
variable {X : Cx} {e : Expr} {es : List Expr} {te : TE} {t : TA} {pos : Pos}
theorem pa_nil : PA X [] tNil := fun _ _ _ _ H Q I h => Calls.spliced_nil ⟨[], H, I, .nil, h⟩
theorem pa_cons (ha : PE X e te) (hr : PA X es t) (hs : starEach (e :: es) X.env = (false, eval e X.env) :: starEach es X.env := by rfl) : PA X (e :: es) (tCons te t) := by
  intro pos pins s σ H Q I h
  rw [hs]
  show wpAny _ _ (spliced ((false, eval e X.env) :: backTo pos (starEach es X.env))) _ _ s
  refine Calls.spliced_cons (thn (ha pins s σ H _ I h) fun u s1 ⟨x, H1, I1, r1, q1⟩ => ?_)
  exact thn (hr pos pins s1 σ H1 _ I1 q1) fun us s2 ⟨xs, H2, I2, r2, q2⟩ => ⟨x :: xs, H2, I2, .cons r1 r2, q2⟩

/-- a tuple, a list of written items -/
def tTup (t : TA) : TE := fun σ H Q => t σ H fun xs H1 => xs.length ≤ sizeLine ∧ ∀ p, H1 p = none → Q (.ref p) (upd H1 p (.tup xs))
def tLst (t : TA) : TE := fun σ H Q => t σ H fun xs H1 => xs.length ≤ sizeLine ∧ ∀ p, H1 p = none → Q (.ref p) (upd H1 p (.lst xs))
theorem pe_tup {x1} (h : PA X es t) : PE X (.Tuple es x1 pos) (tTup t) := by
  intro pins s σ H Q I hq
  refine wpAny_Tuple_spliced (thn (h pos pins s σ H _ I hq) fun us s1 ⟨xs, H1, I1, r, z, q⟩ => ⟨by rw [← r.length]; exact z, ?_⟩)
  have hf : H1 s1.heap.objs.size = none := I1.hok.fresh (Nat.le_refl _)
  refine ⟨.ref s1.heap.objs.size, upd H1 s1.heap.objs.size (.tup xs), I1.laid (t' := s1.toks) (fun b u e => Heap.get?_push_of_some _ e) (Nat.le_refl _) ?_, rfl, q _ hf⟩
  exact ⟨z, us, r, ⟨_, Heap.get?_push_size _ rfl, rfl, _, rfl⟩, NoD.new _ rfl⟩
theorem pe_lst (h : PA X es t) : PE X (.List es pos) (tLst t) := by
  intro pins s σ H Q I hq
  refine wpAny_List_spliced (thn (h pos pins s σ H _ I hq) fun us s1 ⟨xs, H1, I1, r, z, q⟩ => ⟨by rw [← r.length]; exact z, ?_⟩)
  have hf : H1 s1.heap.objs.size = none := I1.hok.fresh (Nat.le_refl _)
  refine ⟨.ref s1.heap.objs.size, upd H1 s1.heap.objs.size (.lst xs), I1.laid (t' := s1.toks) (fun b u e => Heap.get?_push_of_some _ e) (Nat.le_refl _) ?_, rfl, q _ hf⟩
  exact ⟨z, us, 0, r, Heap.get?_push_size _ rfl⟩
end

/-! ### what a def promises -/
/-- a def's promise: the bound arguments in the parameters' order, the heap, the wanted end, the wanted exception -/
abbrev Sp := List V → Hp → VK → XK → Prop
/-- how an exception lies behind a call (file 08 gives it): the callers' frames, abstract heap and state ahead of the call, the wish, the exception, the state -/
abbrev CXT := List Env → Hp → Shared → XK → Value → Shared → Prop

/-- the state at a call -/
structure Env0 (P : Program) (w : World) (K : PySem.W.Frag) (mg : Str → Option Value) (base : Heap) (A : Around) (outer : List Env) (s : Shared) (H : Hp) : Prop where
  frames : A.frames = some outer
  mod : Mod K mg base
  bs : ∀ b o, base.get? b = some o → s.heap.get? b = some o ∧ H b = none
  bsz : base.objs.size ≤ s.heap.objs.size
  funs : s.heap.FunFrames base outer
  frf : ∀ b ∈ frs outer, H b = none
  hok : HOk P w H s.heap
  bare : AllBare s.gens
/-- a call's end -/
def CE (outer : List Env) (P : Program) (w : World) (H : Hp) (s : Shared) (Q : VK) (u : Value) (s' : Shared) : Prop :=
  ∃ v H', s'.os = s.os ∧ AllBare s'.gens ∧ Un (frs outer) [] H H' s.heap s'.heap ∧ HOk P w H' s'.heap ∧ RelV v u ∧ Q v H'
def CR (CX : CXT) (outer : List Env) (P : Program) (w : World) (H : Hp) (s : Shared) (Q : VK) (E : XK) (r : Result) (s' : Shared) : Prop :=
  match r with
  | .ok (.ret u) => CE outer P w H s Q u s'
  | .ok _ => False
  | .error e => CX outer H s E e s'
structure FnOk (P : Program) (w : World) (K : PySem.W.Frag) (mg : Str → Option Value) (base : Heap) (CX : CXT) (k : Nat) (f : Addr) (fd : FuncData) (ps : List Str) (sp : Sp) : Prop where
  len : ∀ vs H Q E, sp vs H Q E → vs.length = ps.length
  run : ∀ (A : Around) (outer : List Env) (s : Shared) (H : Hp) (args : Args) (us : List Value) (vs : List V) (Q : VK) (E : XK), Room k A → Env0 P w K mg base A outer s H → BindsTo s fd args (ps.zip us) → Vals vs us → sp vs H Q E →
    codeAny (model P w) A (.call (.ref f) args) (CR CX outer P w H s Q E) s
theorem FnOk.mono {P : Program} {w : World} {K : PySem.W.Frag} {mg : Str → Option Value} {base : Heap} {CX : CXT} {j k : Nat} {f : Addr} {fd : FuncData} {ps : List Str} {sp : Sp} (F : FnOk P w K mg base CX j f fd ps sp) (h : j ≤ k) :
    FnOk P w K mg base CX k f fd ps sp := ⟨F.len, fun A outer s H args us vs Q E hr => F.run A outer s H args us vs Q E (hr.mono h)⟩
/-- a weaker promise -/
theorem FnOk.imp {P : Program} {w : World} {K : PySem.W.Frag} {mg : Str → Option Value} {base : Heap} {CX : CXT} {k : Nat} {f : Addr} {fd : FuncData} {ps : List Str} {sp sp' : Sp} (F : FnOk P w K mg base CX k f fd ps sp)
    (h : ∀ vs H Q E, sp' vs H Q E → sp vs H Q E) : FnOk P w K mg base CX k f fd ps sp' :=
  ⟨fun vs H Q E q => F.len vs H Q E (h _ _ _ _ q), fun A outer s H args us vs Q E hr he hb hv hs => F.run A outer s H args us vs Q E hr he hb hv (h _ _ _ _ hs)⟩

section
variable {X : Cx} {pins : List (Addr × Obj)} {σ : St} {H : Hp} {s s' : Shared}
/-- from a body: what a callee wants -/
theorem Inv.env0 (I : Inv X pins σ H s) : Env0 X.prog X.w X.K X.mg X.base X.A X.stack s H :=
  ⟨I.ok.frames, I.ok.mod, I.bs, Nat.le_trans I.ok.bsz I.sz, I.stack, I.stkFree, I.hok, I.bare⟩
/-- behind a call -/
theorem Inv.after {Q : VK} {u : Value} (I : Inv X pins σ H s) (h : CE X.stack X.prog X.w H s Q u s') : EP X pins σ Q u s' := by
  obtain ⟨v, H', os, bare, un, hok, r, q⟩ := h
  obtain ⟨hh, g, d, t, os'⟩ := s'
  obtain rfl : os' = s.os := os
  exact ⟨v, H', I.call (h' := hh) (g' := g) (d' := d) (t' := t) (ch := []) un hok bare (fun b z => absurd z (by simp)), r, q⟩
end

/-! ### calls -/
/-- f(..): the written arguments, then the defaults dvs; E: what is wanted of an exception -/
def tCall (sp : Sp) (dvs : List V) (E : XK) (t : TA) : TE := fun σ H Q => t σ H fun vs H1 => sp (vs ++ dvs) H1 Q E

/-- how the parameters are bound: us the positional arguments, kw the keywords' values by name, ds the defaults that fill up -/
def Binds (K : PySem.W.Frag) (fd : FuncData) (ps : List Str) (ds : List Value) : Prop :=
  ∀ (s : Shared) (us : List Value), K.In s.heap → (us ++ ds).length = ps.length → BindsTo s fd ⟨us, []⟩ (ps.zip (us ++ ds))
/-- every parameter is given -/
theorem Binds.all {K : PySem.W.Frag} {fd : FuncData} {ps : List Str} (h : ∀ us : List Value, us.length = ps.length → bindArgs fd ⟨us, []⟩ = pure (ps.zip us)) : Binds K fd ps [] := fun s us _ hl => by
  rw [List.append_nil] at hl ⊢
  exact .of_eq (h us hl)

/-- an exception of a callee reaches what this body wants of exceptions -/
def Passes (CX : CXT) (X : Cx) (E : XK) : Prop := ∀ (pins : List (Addr × Obj)) (σ : St) (H : Hp) (s : Shared) (e : Value) (s' : Shared), Inv X pins σ H s → CX X.stack H s E e s' → X.xe e s'

section
variable {X : Cx} {CX : CXT} {k : Nat} {f C : Addr} {fd : FuncData} {ps : List Str} {sp : Sp} {dvs : List V} {ds : List Value} {E : XK} {x m : Str} {p pos apos : Pos} {e o : Expr} {es : List Expr} {ta : TE} {t : TA}

/-- the callee runs -/
theorem run_fn {pins : List (Addr × Obj)} {σ : St} {H : Hp} {s : Shared} {Q : VK} {us : List Value} {vs : List V} (F : FnOk X.prog X.w X.K X.mg X.base CX k f fd ps sp) (hr : Room k X.A) (hb : Binds X.K fd ps ds) (hd : Vals dvs ds) (hx : Passes CX X E)
    (I : Inv X pins σ H s) (r : Vals vs us) (h : sp (vs ++ dvs) H Q E) : wpAny (model X.prog X.w) X.A (call (.ref f) us) (EP X pins σ Q) X.xe s := by
  have r2 : Vals (vs ++ dvs) (us ++ ds) := r.append hd
  have hl : (us ++ ds).length = ps.length := by rw [← r2.length]; exact F.len _ _ _ _ h
  refine wpAny_call (codeAny_mono (F.run X.A X.stack s H ⟨us, []⟩ (us ++ ds) (vs ++ dvs) Q E hr I.env0 (hb s us I.kIn hl) r2 h) fun r s' hq => ?_)
  cases r with
  | error e => exact hx pins σ H s e s' I hq
  | ok fl =>
    cases fl with
    | ret u => exact I.after hq
    | next => exact False.elim hq
    | brk => exact False.elim hq
    | cont => exact False.elim hq

theorem pe_call (F : FnOk X.prog X.w X.K X.mg X.base CX k f fd ps sp) (hr : Room k X.A) (hg : Gl X x) (hm : X.mg x = some (.ref f)) (hk : PySem.W.keepIn X.K (.ref f) = true) (hb : Binds X.K fd ps ds) (hd : Vals dvs ds) (hx : Passes CX X E)
    (ha : PA X (e :: es) t) (hdb : (x == ("__debug__" : Str)) = false := by decide) (he : starEach (e :: es) X.env = (false, eval e X.env) :: starEach es X.env := by rfl) (hpl : (backTo pos (starEach es X.env)).any (·.1) = false := by rfl) :
    PE X (.Call (.Name x p) (e :: es) [] pos) (tCall sp dvs E t) := by
  intro pins s σ H Q I h
  refine wpAny_Call_Name_kw (ld_glob I hg hm ?_ hdb)
  refine PySem.W.callWith_K (h₀ := X.base) I.ok.mod.kin hk (thn (ha pos pins s σ H _ I h) fun us s1 ⟨vs, H1, I1, r, q⟩ => ⟨I1.kIn, ?_⟩) he hpl
  exact run_fn F hr hb hd hx I1 r q

end

/-! ### keywords -/
section
variable {X : Cx} {CX : CXT} {k : Nat} {f C : Addr} {fd : FuncData} {ps ks : List Str} {sp : Sp} {E : XK} {x m : Str} {p pos apos kpos : Pos} {e o : Expr} {es : List Expr} {kws : List Keyword} {te ta : TE} {t tk : TA} {nm : Option Str}

variable {g : List Value → List Value → List Value} {gV : List V → List V → List V}
end

/-! ### a def's body keeps its promise -/
/-- names: the parameters first -/
structure FnScope (N P : List Str) (sc : Scope) : Prop where
  kind : sc.kind = .function
  co : sc.isCoroutine = false
  gen : sc.isGenerator = false
  nd : N.Nodup
  pre : N.take P.length = P
  par : ∀ x ∈ P, sc.names.lookup x = some .local ∨ sc.names.lookup x = some .cell
  nofree : ∀ y ∈ sc.names, y.2 ≠ .free

theorem bindL_out {kindOf : Str → Option NameKind} {x : Str} : ∀ {binds : List (Str × Value)} {m : Str → Option Value}, (∀ v, (x, v) ∉ binds) → bindL kindOf binds m x = m x
  | [], _, _ => rfl
  | (n, v) :: r, m, h => by
    unfold bindL
    rw [bindL_out fun w hw => h w (List.mem_cons_of_mem _ hw)]
    split
    · have : x ≠ n := by rintro rfl; exact h v List.mem_cons_self
      simp [this]
    · rfl
theorem bindC_out {kindOf : Str → Option NameKind} {x : Str} : ∀ {binds : List (Str × Value)} {m : Str → Option Value}, (∀ v, (x, v) ∉ binds) → bindC kindOf binds m x = m x
  | [], _, _ => rfl
  | (n, v) :: r, m, h => by
    unfold bindC
    rw [bindC_out fun w hw => h w (List.mem_cons_of_mem _ hw)]
    split
    · rfl
    · have : x ≠ n := by rintro rfl; exact h v List.mem_cons_self
      simp [this]
theorem bindL_get {kindOf : Str → Option NameKind} {x : Str} {v : Value} : ∀ {P : List Str} {vs : List Value} {i : Nat} {m : Str → Option Value}, P.Nodup → P[i]? = some x → vs[i]? = some v → kindOf x = some .local →
    bindL kindOf (P.zip vs) m x = some v
  | [], _, _, _, _, h, _, _ => by simp at h
  | _ :: _, [], _, _, _, _, h, _ => by simp at h
  | p :: P, w :: vs, 0, m, nd, h1, h2, hk => by
    simp at h1 h2; subst h1; subst h2
    show bindL kindOf ((p, w) :: P.zip vs) m p = _
    unfold bindL
    rw [bindL_out fun v hv => (List.nodup_cons.mp nd).1 (List.of_mem_zip hv).1, if_pos hk]
    simp
  | p :: P, w :: vs, i + 1, m, nd, h1, h2, hk => by
    show bindL kindOf ((p, w) :: P.zip vs) m x = _
    unfold bindL
    exact bindL_get (i := i) (List.nodup_cons.mp nd).2 (by simpa using h1) (by simpa using h2) hk
theorem bindC_get {kindOf : Str → Option NameKind} {x : Str} {v : Value} : ∀ {P : List Str} {vs : List Value} {i : Nat} {m : Str → Option Value}, P.Nodup → P[i]? = some x → vs[i]? = some v → kindOf x ≠ some .local →
    bindC kindOf (P.zip vs) m x = some v
  | [], _, _, _, _, h, _, _ => by simp at h
  | _ :: _, [], _, _, _, _, h, _ => by simp at h
  | p :: P, w :: vs, 0, m, nd, h1, h2, hk => by
    simp at h1 h2; subst h1; subst h2
    show bindC kindOf ((p, w) :: P.zip vs) m p = _
    unfold bindC
    rw [bindC_out fun v hv => (List.nodup_cons.mp nd).1 (List.of_mem_zip hv).1, if_neg hk]
    simp
  | p :: P, w :: vs, i + 1, m, nd, h1, h2, hk => by
    show bindC kindOf ((p, w) :: P.zip vs) m x = _
    unfold bindC
    exact bindC_get (i := i) (List.nodup_cons.mp nd).2 (by simpa using h1) (by simpa using h2) hk

/-- the names' values at the entry -/
def start (N : List Str) (vs : List V) : St := vs.map some ++ List.replicate (N.length - vs.length) none

/-- the context of a def's body, at its entry; an exception leaves the frame, then lies as CX says -/
def cxOf (CX : CXT) (P : Program) (w : World) (K : PySem.W.Frag) (mg : Str → Option Value) (base : Heap) (N : List Str) (qual : Str) (scope : Scope) (f : Addr) (cd : Value) (A : Around) (outer : List Env) (s : Shared) (H : Hp) (E : XK) : Cx where
  prog := P
  w := w
  K := K
  mg := mg
  base := base
  A := A.deeper (envOfC qual scope s.heap.objs.size f cd)
  N := N
  s₀ := s
  H₀ := H
  env := envOfC qual scope s.heap.objs.size f cd
  outer := outer
  stack := envOfC qual scope s.heap.objs.size f cd :: outer
  ex := []
  calm := true
  fn := fun _ => true
  pn := []
  xe := fun e s' => wpAny (model P w) (A.deeper (envOfC qual scope s.heap.objs.size f cd)) (leaving (envOfC qual scope s.heap.objs.size f cd) e) (fun _ s'' => CX outer H s E e s'') (fun e' s'' => CX outer H s E e' s'') s'

theorem cell_has {sc : Scope} {n : Nat} {x : Str} (h : sc.names.lookup x = some .cell) : ∃ c, (cellsFrom n sc.names []).lookup x = some c := by
  have q := PySem.W.cellsFrom_some sc.names n [] (.inl h)
  exact Option.isSome_iff_exists.mp q

theorem inv_start {CX : CXT} {P : Program} {w : World} {K : PySem.W.Frag} {mg : Str → Option Value} {base : Heap} {N ps : List Str} {qual : Str} {scope : Scope} {f : Addr} {cd : Value} {A : Around} {outer : List Env} {s s1 : Shared} {H : Hp} {E : XK} {us : List Value} {vs : List V}
    (S : FnScope N ps scope) (hd : A.handled = none) (e0 : Env0 P w K mg base A outer s H) (hl : vs.length = ps.length) (r : Vals vs us)
    (x : InCallC s s.heap.objs.size (bindL (envOfC qual scope s.heap.objs.size f cd).kindOf (ps.zip us) fun _ => none) (cellsFrom (s.heap.objs.size + 1) scope.names []) (bindC (envOfC qual scope s.heap.objs.size f cd).kindOf (ps.zip us) fun _ => none) s1) :
    Inv (cxOf CX P w K mg base N qual scope f cd A outer s H E) [] (start N vs) H s1 := by
  have hpl : ps.length ≤ N.length := by have := congrArg List.length S.pre; rw [List.length_take] at this; omega
  obtain ⟨h1, tk, rfl, hk⟩ := x.done
  have noA : ∀ b : Addr, b ∉ (cxOf CX P w K mg base N qual scope f cd A outer s H E).ex := fun b z => absurd (show b ∈ ([] : List Addr) from z) (by simp)
  refine ⟨⟨e0.mod, S.kind, rfl, rfl, Nat.le_refl _, fun y z c h1 h2 => ?_, fun y hy => ?_, fun y c _ h => ?_, fun _ => hd, Around.frames_deeper e0.frames, .inr ⟨rfl, rfl⟩, fun b z => absurd z (noA b), e0.bs, e0.bsz, fun b _ _ => noA b, fun b z => absurd z (noA b), e0.funs, e0.frf⟩,
    rfl, e0.bare, Un.kept hk, ⟨_, x.toInCall.ns, fun i y v h1 h2 h3 => ?_⟩, fun y c h => ⟨_, x.cell y c h⟩, e0.hok.fresh (Nat.le_refl _), fun y c h => ?_, fun p hp => absurd (show p ∈ ([] : List (Addr × Obj)) from hp) (by simp), e0.hok.kept hk, ?_⟩
  · exact name_of_addr x.apart (PySem.mem_of_lookup h1) (PySem.mem_of_lookup h2)
  · have hy : scope.names.lookup y = some .cell ∨ scope.names.lookup y = some .free := hy
    rcases hy with hy | hy
    · exact cell_has hy
    · exact absurd rfl (S.nofree _ (PySem.mem_of_lookup hy))
  · exact Nat.le_of_lt (x.above y c (PySem.mem_of_lookup h))
  · have hi : i < vs.length := by
      unfold start at h2
      by_cases hi : i < vs.length
      · exact hi
      · rw [List.getElem?_append_right (by simpa using hi)] at h2
        rw [List.getElem?_replicate] at h2
        split at h2 <;> cases h2
    have ha : vs[i]? = some v := by
      unfold start at h2
      rw [List.getElem?_append_left (by simpa using hi), List.getElem?_map] at h2
      cases e : vs[i]? with
      | none => rw [e] at h2; cases h2
      | some a => rw [e] at h2; cases h2; rfl
    obtain ⟨u, hu, rv⟩ := r.get ha
    have hp : ps[i]? = some y := by
      rw [← S.pre, List.getElem?_take_of_lt (by omega)]; exact h1
    have ndP : ps.Nodup := by rw [← S.pre]; exact S.nd.sublist (List.take_sublist _ _)
    refine ⟨u, rv, ?_⟩
    rcases S.par y (List.mem_of_getElem? hp) with k | k
    · exact .inl ⟨k, bindL_get ndP hp hu k⟩
    · obtain ⟨c, e⟩ := cell_has (n := s.heap.objs.size + 1) k
      refine .inr ⟨.inl k, c, e, ?_⟩
      have q := x.cell y c e
      rw [bindC_get ndP hp hu (by show scope.names.lookup y ≠ _; rw [k]; decide)] at q
      exact q
  · exact e0.hok.fresh (Nat.le_of_lt (x.above y c (PySem.mem_of_lookup h)))
  · unfold start
    show _ = N.length
    rw [List.length_append, List.length_map, List.length_replicate]
    omega

/-- THE RULE: a def (or a method) of the text, by its body. The body's reading t is chosen for each entry; it is run at the parameters' values -/
theorem fn_of {CX : CXT} {P : Program} {w : World} {K : PySem.W.Frag} {mg : Str → Option Value} {base : Heap} {k : Nat} {f : Addr} {name qual : Str} {params : Arguments} {body : List Stmt} {scope : Scope} {dV kV doc pm cdv ct oc : Value} {an od : Option Addr}
    {osl : Array (Option Value)} {N ps : List Str} {sp : Sp} (lk : K.lookup f = some ⟨oc, od, .func (PySem.W.fnOf name qual params body scope dV kV doc pm an cdv ct), osl⟩) (hcd : PySem.W.codeIn K cdv qual = true) (S : FnScope N ps scope)
    (len : ∀ vs H Q E, sp vs H Q E → vs.length = ps.length)
    (hbody : ∀ (A : Around) (outer : List Env) (s : Shared) (H : Hp) (vs : List V) (Q : VK) (E : XK), Room k (A.deeper (envOfC qual scope s.heap.objs.size f cdv)) → sp vs H Q E →
      ∃ t, PSs (cxOf CX P w K mg base N qual scope f cdv A outer s H E) body t ∧ t { nx := fun _ H' => Q .non H', rt := Q } (start N vs) H) :
    FnOk P w K mg base CX (k + 1) f (PySem.W.fnOf name qual params body scope dV kV doc pm an cdv ct) ps sp := by
  refine ⟨len, fun A outer s H args us vs Q E hr e0 hb r hsp => ?_⟩
  have hl := len _ _ _ _ hsp
  have KX : K.In s.heap := e0.mod.kin.keeps fun b o e => (e0.bs b o e).1
  have lim : s.heap.NoLimit := e0.mod.nolimit.keeps fun b o e => (e0.bs b o e).1
  have hkind : ∀ y ∈ ps.zip us, scope.names.lookup y.1 = some .local ∨ (scope.names.lookup y.1 = some .cell ∧ ((cellsFrom (s.heap.objs.size + 1) scope.names []).lookup y.1).isSome = true) := fun ⟨n, v⟩ hy => by
    rcases S.par n (List.of_mem_zip hy).1 with q | q
    · exact .inl q
    · exact .inr ⟨q, PySem.W.cellsFrom_some _ _ _ (.inl q)⟩
  refine codeAny_call_function hr.depth (KX _ _ lk) rfl S.co S.gen rfl (PySem.W.codeRec_of KX hcd) (hb _ _ _ _ ?_)
  refine wpAny_newFunctionEnv_cells S.kind hkind fun env he s1 x => ?_
  subst he
  refine ⟨lim.keeps x.toInCall.keep, codeAny_func ?_⟩
  obtain ⟨t, ht, hq⟩ := hbody A outer s H vs Q E (hr.deeper _) hsp
  have I : Inv (cxOf CX P w K mg base N qual scope f cdv A outer s H E) [] (start N vs) H s1 := inv_start S hr.hd e0 hl r x
  refine wpAny_mono (ht [] s1 (start N vs) H _ I hq) (fun fl s' hs => ?_) fun e s' hs => hs
  have fin : ∀ {σ' : St} {H' : Hp} {v : V} {u : Value}, Inv (cxOf CX P w K mg base N qual scope f cdv A outer s H E) [] σ' H' s' → RelV v u → Q v H' → CE outer P w H s Q u s' :=
    fun {σ' H' v u} J rv q => ⟨v, H', J.os, J.bare, J.base, J.hok, rv, q⟩
  cases fl with
  | ret u =>
    obtain ⟨v, σ', H', J, rv, q⟩ := hs
    exact fin J rv q
  | next =>
    obtain ⟨σ', H', J, q⟩ := hs
    exact fin (v := V.non) (u := Value.none) J rfl q
  | brk =>
    obtain ⟨_, _, _, q⟩ := hs
    exact False.elim q
  | cont =>
    obtain ⟨_, _, _, q⟩ := hs
    exact False.elim q
end L2

namespace L2
open PySem PySem.Spec PyProof.Rows
section
variable {X : Cx} {x : Str} {p pos : Pos} {e : Expr} {es : List Expr} {t : TA} {id T : String} {r : List V → Hp → VK → Prop}

def tCB (r : List V → Hp → VK → Prop) (t : TA) : TE := fun σ H Q => t σ H fun vs H1 => r vs H1 Q
/-- f(e, ..), f a built-in function -/
theorem pe_callB (hc : CallR X (.builtin id) r) (hg : Gl X x) (hm : X.mg x = none) (hv : bootBuiltins x = some (.builtin id)) (ha : PA X (e :: es) t) (hn : x ≠ "__name__" := by decide) (hdb : (x == ("__debug__" : Str)) = false := by decide)
    (he : starEach (e :: es) X.env = (false, eval e X.env) :: starEach es X.env := by rfl) (hpl : (backTo pos (starEach es X.env)).any (·.1) = false := by rfl) : PE X (.Call (.Name x p) (e :: es) [] pos) (tCB r t) := by
  intro pins s σ H Q I h
  refine wpAny_Call_Name_kw (ld_blt I hg hm hv ?_ hn hdb)
  exact PyProof.Rows.callWith_builtin1 (thn (ha pos pins s σ H _ I h) fun us s1 ⟨vs, H1, I1, r1, q1⟩ => hc pins s1 σ H1 vs us Q I1 r1 q1) he hpl
/-- T(e, ..), T a built-in type -/
theorem pe_callTy (hc : CallR X (.type T) r) (hg : Gl X x) (hm : X.mg x = none) (hv : bootBuiltins x = some (.type T)) (ha : PA X (e :: es) t) (hn : x ≠ "__name__" := by decide) (hdb : (x == ("__debug__" : Str)) = false := by decide)
    (he : starEach (e :: es) X.env = (false, eval e X.env) :: starEach es X.env := by rfl) (hpl : (backTo pos (starEach es X.env)).any (·.1) = false := by rfl) : PE X (.Call (.Name x p) (e :: es) [] pos) (tCB r t) := by
  intro pins s σ H Q I h
  refine wpAny_Call_Name_kw (ld_blt I hg hm hv ?_ hn hdb)
  exact PyProof.Rows.callWith_type1 (thn (ha pos pins s σ H _ I h) fun us s1 ⟨vs, H1, I1, r1, q1⟩ => hc pins s1 σ H1 vs us Q I1 r1 q1) he hpl
end
end L2

namespace L2
open PySem PySem.Spec PyProof.Rows

/-! ### lists of pairs as tables -/
section
variable {κ : Type} [DecidableEq κ]
def valV (kvs : List (κ × V)) (k : κ) : Option V := (kvs.find? fun kv => decide (kv.1 = k)).map (·.2)
/-- in its place, or at the end -/
def putK (kvs : List (κ × V)) (k : κ) (v : V) : List (κ × V) :=
  if (kvs.any fun kv => decide (kv.1 = k)) = true then kvs.map (fun kv => if kv.1 = k then (kv.1, v) else kv) else kvs ++ [(k, v)]

theorem valV_pos {p : κ × V} {r : List (κ × V)} {k : κ} (e : p.1 = k) : valV (p :: r) k = some p.2 := by simp [valV, List.find?_cons, e]
theorem valV_neg {p : κ × V} {r : List (κ × V)} {k : κ} (e : ¬ p.1 = k) : valV (p :: r) k = valV r k := by simp [valV, List.find?_cons, e]
theorem valV_any (k : κ) : ∀ kvs : List (κ × V), (kvs.any fun kv => decide (kv.1 = k)) = (valV kvs k).isSome
  | [] => rfl
  | p :: r => by
    rw [List.any_cons]
    by_cases e : p.1 = k
    · simp only [valV_pos e, decide_eq_true e, Bool.true_or, Option.isSome_some]
    · rw [valV_neg e, decide_eq_false e, Bool.false_or]; exact valV_any k r
theorem length_putK (kvs : List (κ × V)) (k : κ) (v : V) : (putK kvs k v).length ≤ kvs.length + 1 := by
  unfold putK
  split
  · rw [List.length_map]; omega
  · rw [List.length_append, List.length_cons, List.length_nil]; omega

theorem RelO.isSome_eq {o : Option V} {u : Option Value} (r : RelO o u) : o.isSome = u.isSome := by
  cases o with
  | none => cases u with
    | none => rfl
    | some _ => exact (show False from r).elim
  | some _ => cases u with
    | none => exact (show False from r).elim
    | some _ => rfl
theorem RelO.getD {o : Option V} {u : Option Value} {d : V} {d' : Value} (r : RelO o u) (rd : RelV d d') : RelV (o.getD d) (u.getD d') := by
  cases o with
  | none => cases u with
    | none => exact rd
    | some _ => exact (show False from r).elim
  | some _ => cases u with
    | none => exact (show False from r).elim
    | some _ => exact r

/-- raw tables of the same keys -/
theorem KV.val {kvs : List (κ × V)} {vs : List (κ × Value)} (r : KV kvs vs) (k : κ) : RelO (valV kvs k) (valueAt vs k) := by
  unfold KV at r
  induction r with
  | nil => exact True.intro
  | @cons p q ps qs h t ih =>
    obtain ⟨h1, h2⟩ := h
    by_cases e : p.1 = k
    · have e' : q.1 = k := h1.symm.trans e
      have b : valueAt (q :: qs) k = some q.2 := by simp [valueAt, List.find?_cons, e']
      rw [valV_pos e, b]; exact h2
    · have e' : ¬ q.1 = k := fun z => e (h1.trans z)
      have b : valueAt (q :: qs) k = valueAt qs k := by simp [valueAt, List.find?_cons, e']
      rw [valV_neg e, b]; exact ih
theorem KV.any {kvs : List (κ × V)} {vs : List (κ × Value)} (r : KV kvs vs) (k : κ) : (kvs.any fun kv => decide (kv.1 = k)) = vs.any fun kv => decide (kv.1 = k) := by
  unfold KV at r
  induction r with
  | nil => rfl
  | cons h t ih => rw [List.any_cons, List.any_cons, ih, h.1]
theorem KV.repl {kvs : List (κ × V)} {vs : List (κ × Value)} (r : KV kvs vs) (k : κ) {y : V} {u : Value} (ry : RelV y u) :
    KV (kvs.map fun kv => if kv.1 = k then (kv.1, y) else kv) (vs.map fun kv => if kv.1 = k then (kv.1, u) else kv) := by
  unfold KV at r ⊢
  induction r with
  | nil => exact .nil
  | @cons p q ps qs h t ih =>
    rw [List.map_cons, List.map_cons]
    refine .cons ?_ ih
    obtain ⟨h1, h2⟩ := h
    by_cases e : p.1 = k
    · rw [if_pos e, if_pos (h1.symm.trans e)]; exact ⟨h1, ry⟩
    · rw [if_neg e, if_neg (fun z => e (h1.trans z))]; exact ⟨h1, h2⟩
theorem KV.put {kvs : List (κ × V)} {vs : List (κ × Value)} (r : KV kvs vs) (k : κ) {y : V} {u : Value} (ry : RelV y u) : KV (putK kvs k y) (stored vs k u) := by
  unfold putK stored
  rw [r.any k]
  by_cases e : (vs.any fun kv => decide (kv.1 = k)) = true
  · rw [if_pos e, if_pos e]; exact r.repl k ry
  · rw [if_neg e, if_neg e]; exact Paired.snoc r ⟨rfl, ry⟩
theorem KV.length {kvs : List (κ × V)} {vs : List (κ × Value)} (r : KV kvs vs) : kvs.length = vs.length := Paired.length r
end

/-! ### a tracked dict, its keys ints and texts or tuples of these -/
theorem kV_is {P : Program} {w : World} {k : Key} {u : Value} (r : RelV (kV k) u) : (mixKind P w).is k u = true := by
  cases k with
  | inl i => obtain ⟨t, e⟩ := (show ∃ t, u = Value.int i t from r); subst e; exact mixKind_int P w i t
  | inr x => obtain ⟨t, e⟩ := (show ∃ t, u = Value.str x t from r); subst e; exact mixKind_str P w x t
theorem items_are {P : Program} {w : World} : ∀ {ks : List Key} {us : List Value}, Vals (ks.map kV) us → ItemsAre (mixKind P w) ks us
  | [], _, r => by rw [List.map_nil] at r; cases r; exact .nil
  | k :: ks, _, r => by
    rw [List.map_cons] at r
    cases r with
    | cons h t => exact .cons (kV_is h) (items_are t)

/-- raw entries of a dict with tuple keys -/
abbrev KT (H : Hp) : List (List Key × V) → List (List Key × Addr × Value) → Prop := Paired fun p q => p.1 = q.1 ∧ H q.2.1 = some (.tup (p.1.map kV)) ∧ RelV p.2 q.2.2
theorem KT.val {H : Hp} {kvs : List (List Key × V)} {xs : List (List Key × Addr × Value)} (r : KT H kvs xs) (k : List Key) : RelO (valV kvs k) ((atKey xs k).map (·.2)) := by
  induction r with
  | nil => exact True.intro
  | @cons p q ps qs h t ih =>
    obtain ⟨h1, _, h2⟩ := h
    by_cases e : p.1 = k
    · have e' : q.1 = k := h1.symm.trans e
      have b : atKey (q :: qs) k = some q.2 := by simp [atKey, List.find?_cons, e']
      rw [valV_pos e, b]; exact h2
    · have e' : ¬ q.1 = k := fun z => e (h1.trans z)
      have b : atKey (q :: qs) k = atKey qs k := by simp [atKey, List.find?_cons, e']
      rw [valV_neg e, b]; exact ih
theorem KT.repl {H : Hp} {kvs : List (List Key × V)} {xs : List (List Key × Addr × Value)} (r : KT H kvs xs) (k : List Key) {y : V} {u : Value} (ry : RelV y u) :
    KT H (kvs.map fun kv => if kv.1 = k then (kv.1, y) else kv) (xs.map (putAt k u)) := by
  induction r with
  | nil => exact .nil
  | @cons p q ps qs h t ih =>
    rw [List.map_cons, List.map_cons]
    refine .cons ?_ ih
    obtain ⟨h1, h2, h3⟩ := h
    unfold putAt
    by_cases e : p.1 = k
    · rw [if_pos e, if_pos (h1.symm.trans e)]; exact ⟨h1, h2, ry⟩
    · rw [if_neg e, if_neg (fun z => e (h1.trans z))]; exact ⟨h1, h2, h3⟩
theorem KT.put {H : Hp} {kvs : List (List Key × V)} {xs : List (List Key × Addr × Value)} (r : KT H kvs xs) (k : List Key) {b : Addr} {y : V} {u : Value} (hb : H b = some (.tup (k.map kV))) (ry : RelV y u) :
    KT H (putK kvs k y) (storedH xs k b u) := by
  have e : (kvs.any fun kv => decide (kv.1 = k)) = (atKey xs k).isSome := by
    rw [valV_any, (r.val k).isSome_eq, Option.isSome_map]
  unfold putK storedH
  rw [e]
  by_cases q : (atKey xs k).isSome = true
  · rw [if_pos q, if_pos q]; exact r.repl k ry
  · rw [if_neg q, if_neg q]; exact Paired.snoc r ⟨rfl, hb, ry⟩
theorem KT.keeps {H H' : Hp} {kvs : List (List Key × V)} {xs : List (List Key × Addr × Value)} (r : KT H kvs xs) (ht : ∀ b ys, H b = some (.tup ys) → H' b = some (.tup ys)) : KT H' kvs xs :=
  Paired.mapP r fun _ _ z => ⟨z.1, ht _ _ z.2.1, z.2.2⟩

section
variable {P : Program} {w : World} {H : Hp} {h : Heap} {a : Addr}
theorem rd_of {u : HO} (ok : HOk P w H h) (e : Rd H a u) : ObjOk P w H h a u := e.ok ok
theorem dk_rd {kvs : List (Key × V)} (ok : HOk P w H h) (e : Rd H a (.dK kvs)) : kvs.length ≤ sizeLine ∧ (a == sysModules) = false ∧ ∃ vs, KV kvs vs ∧ h.DictOf (mixKind P w) a vs :=
  show ObjOk P w H h a (.dK kvs) from rd_of ok e
theorem dk_of {kvs : List (Key × V)} (ok : HOk P w H h) (e : H a = some (.dK kvs)) : kvs.length ≤ sizeLine ∧ (a == sysModules) = false ∧ ∃ vs, KV kvs vs ∧ h.DictOf (mixKind P w) a vs := dk_rd ok (.inl e)
/-- a tracked tuple of ints and texts is a key -/
theorem key_of {ks : List Key} (ok : HOk P w H h) (e : H a = some (.tup (ks.map kV))) : (tupleKind (mixKind P w)).is h ks a := by
  obtain ⟨_, its, r, ⟨o, h1, h2, n, h3⟩, _⟩ := (show ObjOk P w H h a (.tup (ks.map kV)) from ok a _ e)
  exact ⟨o, its.toArray, n, h1, h2, h3, by simpa using items_are r⟩
theorem dt_rd {kvs : List (List Key × V)} (ok : HOk P w H h) (e : Rd H a (.dT kvs)) : kvs.length ≤ sizeLine ∧ (a == sysModules) = false ∧
    ∃ xs, KT H kvs xs ∧ h.DictOfH (tupleKind (mixKind P w)) a xs := by
  obtain ⟨z, y, xs, r, o, es, ep, h1, h2, h3, h4, h5⟩ := (show ObjOk P w H h a (.dT kvs) from rd_of ok e)
  refine ⟨z, y, xs, r, o, es, ep, h1, h2, h3, h4, fun x hx => ?_, h5⟩
  have all : ∀ {l : List (List Key × V)} {m : List (List Key × Addr × Value)}, KT H l m → ∀ x ∈ m, (tupleKind (mixKind P w)).is h x.1 x.2.1 := by
    intro l m q
    induction q with
    | nil => intro x hx; exact nomatch hx
    | @cons p q ps qs hq t ih =>
      intro x hx
      rcases List.mem_cons.mp hx with e | hx
      · subst e
        exact key_of ok (by rw [← hq.1]; exact hq.2.1)
      · exact ih x hx
  exact all r x hx
theorem dt_of {kvs : List (List Key × V)} (ok : HOk P w H h) (e : H a = some (.dT kvs)) : kvs.length ≤ sizeLine ∧ (a == sysModules) = false ∧
    ∃ xs, KT H kvs xs ∧ h.DictOfH (tupleKind (mixKind P w)) a xs := dt_rd ok (.inl e)
end

/-- what the dict at a holds at the key y -/
def DGet (H : Hp) (a : Addr) (y : V) (r : Option V) : Prop :=
  (∃ kvs k, Rd H a (.dK kvs) ∧ y = kV k ∧ r = valV kvs k) ∨ ∃ kvs k b, Rd H a (.dT kvs) ∧ y = .ref b ∧ H b = some (.tup (k.map kV)) ∧ r = valV kvs k
/-- the heap behind a[y] = v -/
def DPut (H : Hp) (a : Addr) (y v : V) (H' : Hp) : Prop :=
  (∃ kvs k, H a = some (.dK kvs) ∧ y = kV k ∧ kvs.length < sizeLine ∧ H' = upd H a (.dK (putK kvs k v))) ∨
  ∃ kvs k b, H a = some (.dT kvs) ∧ y = .ref b ∧ H b = some (.tup (k.map kV)) ∧ kvs.length < sizeLine ∧ H' = upd H a (.dT (putK kvs k v))
theorem DGet.k {H : Hp} {a : Addr} {kvs : List (Key × V)} {k : Key} (e : H a = some (.dK kvs)) : DGet H a (kV k) (valV kvs k) := .inl ⟨kvs, k, .inl e, rfl, rfl⟩
theorem DPut.k {H : Hp} {a : Addr} {kvs : List (Key × V)} {k : Key} {v : V} (e : H a = some (.dK kvs)) (hl : kvs.length < sizeLine) : DPut H a (kV k) v (upd H a (.dK (putK kvs k v))) := .inl ⟨kvs, k, e, rfl, hl, rfl⟩

section
variable {X : Cx} {pins : List (Addr × Obj)} {σ : St} {H : Hp} {s : Shared} {a : Addr} {y v : V} {u r : Value} {o : Option V} {A : Around} {E : Value → Shared → Prop}

theorem Inv.big (I : Inv X pins σ H s) : sysModules < s.heap.objs.size := by
  have h : mainGlobals < s.heap.objs.size := (I.mod.glob.keeps I.bk).lt
  exact Nat.lt_trans (by decide) h

/-- d[y], there -/
theorem d_getItem {Q : Value → Shared → Prop} (hu : A.units + 1 < cLine) (I : Inv X pins σ H s) (g : DGet H a y (some v)) (ry : RelV y u) (h : ∀ w' s', Inv X pins σ H s' → RelV v w' → Q w' s') :
    wpAny (model X.prog X.w) A (getItem (.ref a) u) Q E s := by
  rcases g with ⟨kvs, k, e, ey, l⟩ | ⟨kvs, k, b, e, ey, eb, l⟩
  · subst ey
    obtain ⟨z, hd, vs, rel, dd⟩ := dk_rd I.hok e
    obtain ⟨w', hw, rw'⟩ := RelO.some_of (v := v) (o := valueAt vs k) (by rw [l]; exact rel.val k)
    exact wpAny_getItem_of (kV_is ry) dd.mapOf hw (h w' _ (I.tok _) rw')
  · subst ey
    cases (show u = Value.ref b from ry)
    obtain ⟨z, hd, xs, rel, dd⟩ := dt_rd I.hok e
    obtain ⟨w', hw, rw'⟩ := RelO.some_of (v := v) (o := (atKey xs k).map (·.2)) (by rw [l]; exact rel.val k)
    obtain ⟨p, hp, hp2⟩ := Option.map_eq_some_iff.mp hw
    refine wpAny_getItem_heap (tupleKind_room_in1 hu) (key_of I.hok eb) dd hp ?_
    rw [hp2]
    exact h w' _ (I.tok _) rw'
/-- a dict's object is replaced -/
theorem d_write {h' : Heap} {t' : Nat} {ob : HO} (I : Inv X pins σ H s) (mu : Mut (H a)) (hs : Heap.SameBut a s.heap h') (he : ∃ q, h'.get? a = some q) (new : ObjOk X.prog X.w (upd H a ob) h' a ob) :
    Inv X pins σ (upd H a ob) { s with heap := h', toks := t' } :=
  I.write (x := a) (e := a) mu (.inl rfl) (fun b q hb z => (hs.2 b hb).trans z) he new
theorem dk_new {P : Program} {w : World} {H' : Hp} {h' : Heap} {kvs : List (Key × V)} {vs : List (Key × Value)} (z : kvs.length ≤ sizeLine) (hd : (a == sysModules) = false) (rel : KV kvs vs) (dd : h'.DictOf (mixKind P w) a vs) :
    ObjOk P w H' h' a (.dK kvs) := ⟨z, hd, vs, rel, dd⟩
/-- d[y] = v -/
theorem d_setItem {H' : Hp} {Q : Unit → Shared → Prop} (hu : A.units + 1 < cLine) (I : Inv X pins σ H s) (g : DPut H a y v H') (ry : RelV y u) (rv : RelV v r) (h : ∀ s', Inv X pins σ H' s' → Q () s') :
    wpAny (model X.prog X.w) A (setItem (.ref a) u r) Q E s := by
  rcases g with ⟨kvs, k, e, ey, l, eH⟩ | ⟨kvs, k, b, e, ey, eb, l, eH⟩
  · subst ey eH
    obtain ⟨z, hd, vs, rel, dd⟩ := dk_of I.hok e
    have hz : vs.length ≤ sizeLine := by rw [← rel.length]; exact z
    have hl : (putK kvs k v).length ≤ sizeLine := by have := length_putK kvs k v; omega
    refine wpAny_setItem_pairs (hsz := hz) (kV_is ry) dd fun h' dd' hs => h _ ?_
    have he : ∃ q, h'.get? a = some q := let ⟨q, _, _, hq, _⟩ := dd'; ⟨q, hq⟩
    exact d_write I (by rw [e]; exact True.intro) hs he (dk_new hl hd (rel.put k rv) dd')
  · subst ey eH
    cases (show u = Value.ref b from ry)
    obtain ⟨z, hd, xs, rel, dd⟩ := dt_of I.hok e
    have hz : xs.length ≤ sizeLine := by rw [← Paired.length rel]; exact z
    have hl : (putK kvs k v).length ≤ sizeLine := by have := length_putK kvs k v; omega
    refine wpAny_setItem_heap (hsz := hz) (tupleKind_room_in1 hu) (key_of I.hok eb) dd fun h' dd' hs => h _ ?_
    obtain ⟨q, es, ep, hq, h2, h3, h4, _, h5⟩ := dd'
    refine d_write I (by rw [e]; exact True.intro) hs ⟨q, hq⟩ ⟨hl, hd, _, (rel.put k eb rv).keeps fun c ys ec => ?_, q, es, ep, hq, h2, h3, h4, h5⟩
    rw [upd_ne (ne_of ec e (fun z => nomatch z))]
    exact ec
end

section
variable {X : Cx} {pins : List (Addr × Obj)} {σ : St} {H : Hp} {s : Shared} {a : Addr} {kvs : List (Key × V)} {k : Key} {u : Value} {A : Around} {E : Value → Shared → Prop}
end

/-! ### readings and rules -/
/-- the element of a subscription, not a slice -/
def NoSl (i : Expr) : Prop := ∀ ov iv, subscripted i false ov iv = operate [ov, iv] (getItem ov iv)
theorem subD_of {prog : Program} {w : World} {A : Around} {E : Value → Shared → Prop} {s : Shared} {env : Env} {value slice : Expr} {pos : Pos} {T id : String} {Q : Value → Shared → Prop}
    (hl : typeLookup (.type T) "__getitem__" = pure (some (.builtin id))) (hs : NoSl slice)
    (h : wpAny (model prog w) A (eval value env) (fun o s₁ => wpAny (model prog w) A (eval slice env) (fun i s₂ => s₂.TypeIs o T ∧ wpAny (model prog w) A (getItem o i) Q E s₂) E s₁) E s) :
    wpAny (model prog w) A (eval (.Subscript value slice pos) env) Q E s := by
  refine Subscript_ (wpAny_mono h (fun o s₁ h₁ => wpAny_mono h₁ (fun i s₂ h₂ => ?_) fun _ _ x => x) fun _ _ x => x)
  obtain ⟨hT, h₂⟩ := h₂
  unfold subscriptTail
  refine wpAny_bind ?_
  rw [getitemInPython_of_ne hT.not_modules]
  refine wpAny_bind (wpAny_specialOf hT hl ?_)
  have fin : wpAny (model prog w) A (subscripted slice false o i) (fun r s₃ => wpAny (model prog w) A (letTemporaryGo value o r >>= fun _ => pure r) Q E s₃) E s₂ := by
    rw [hs o i]
    exact wpAny_operating (wpAny_mono h₂ (fun r s₃ h₃ => wpAny_bind (wpAny_letTemporaryGo (wpAny_pure h₃))) fun _ _ x => x)
  first
    | exact wpAny_pure (wpAny_bind fin)
    | exact wpAny_bind (wpAny_pure (wpAny_bind fin))
    | exact wpAny_bind fin

theorem dict_typeIs {X : Cx} {pins : List (Addr × Obj)} {σ : St} {H : Hp} {s : Shared} {a : Addr} {y : V} {o : Option V} (I : Inv X pins σ H s) (g : DGet H a y o) : s.TypeIs (.ref a) "dict" := by
  rcases g with ⟨kvs, k, e, _, _⟩ | ⟨kvs, k, b, e, _, _, _⟩
  · obtain ⟨_, _, vs, _, dd⟩ := dk_rd I.hok e
    exact dd.typeIs
  · obtain ⟨_, _, xs, _, dd⟩ := dt_rd I.hok e
    exact dd.typeIs

/-- d[y] -/
def tDGet (td ty : TE) : TE := fun σ H Q => td σ H fun x H1 => ty σ H1 fun y H2 => ∃ a v, x = .ref a ∧ DGet H2 a y (some v) ∧ Q v H2
/-- d[y] = v -/
def sDPut (td ty tv : TE) : TS := fun D σ H => tv σ H fun v H1 => td σ H1 fun x H2 => ty σ H2 fun y H3 => ∃ a H4, x = .ref a ∧ DPut H3 a y v H4 ∧ D.nx σ H4

section
variable {X : Cx} {o i e value : Expr} {pos pos' tpos : Pos} {td ty tv : TE}
theorem pe_dget (hu : X.A.units + 1 < cLine) (ho : PE X o td) (hi : PE X i ty) (hs : NoSl i) : PE X (.Subscript o i pos) (tDGet td ty) := by
  intro pins s σ H Q I h
  refine subD_of PySem.F.slot_dict_getitem.lookup hs (thn (ho pins s σ H _ I h) fun u s1 ⟨x, H1, I1, rx, q1⟩ => thn (hi pins s1 σ H1 _ I1 q1) fun iv s2 ⟨y, H2, I2, ry, a, v, ex, g, q2⟩ => ?_)
  subst ex
  obtain rfl : u = Value.ref a := rx
  exact ⟨dict_typeIs I2 g, d_getItem hu I2 g ry fun w' s3 I3 rw' => ⟨v, H2, I3, rw', q2⟩⟩
theorem ps_dput (hu : X.A.units + 1 < cLine) (ho : PE X o td) (hi : PE X i ty) (hv : PE X value tv) (hs : swapsWith value (some (.Subscript o i pos')) pos.line X.env = pure false) :
    PS X (.Assign [.Subscript o i pos'] value pos) (sDPut td ty tv) := by
  intro pins s σ H D I h
  refine wpAny_Assign_Subscript (thn (hv pins s σ H _ I h) fun r s1 ⟨v, H1, I1, rv, q1⟩ => thn (ho pins s1 σ H1 _ I1 q1) fun u s2 ⟨x, H2, I2, rx, q2⟩ => thn (hi pins s2 σ H2 _ I2 q2) fun iv s3 ⟨y, H3, I3, ry, a, H4, ex, g, q3⟩ => ?_) hs
  subst ex
  obtain rfl : u = Value.ref a := rx
  exact d_setItem hu I3 g ry rv fun s4 I4 => ⟨σ, H4, I4, q3⟩
end

/-! ### displays -/
theorem dk_empty {P : Program} {w : World} {H : Hp} (h : Heap) (hb : sysModules < h.objs.size) : ObjOk P w H (h.push { cls := .type "dict", data := .dict #[] }) h.objs.size (.dK []) :=
  ⟨Nat.zero_le _, beq_eq_false_iff_ne.mpr (Ne.symm (Nat.ne_of_lt hb)), [], .nil, Heap.DictOf.new h⟩
/-- {}, to be a dict of the kind that is wanted -/
def tDNewK : TE := fun _ H Q => ∀ p, H p = none → Q (.ref p) (upd H p (.dK []))
section
variable {X : Cx} {pos : Pos}
theorem pe_dnewK : PE X (.Dict [] [] pos) tDNewK := fun pins s σ H Q I h =>
  wpAny_Dict_empty ⟨.ref s.heap.objs.size, _, I.laid (a := s.heap.objs.size) (o := .dK []) (t' := s.toks) (fun _ _ q => Heap.get?_push_of_some _ q) (Nat.le_refl _) (dk_empty s.heap I.big), rfl, h _ (I.hok.fresh (Nat.le_refl _))⟩
end

/-- the pairs of a display, from the left -/
def tPairs : List (TE × TE) → St → Hp → (List (V × V) → Hp → Prop) → Prop
  | [], _, H, Q => Q [] H
  | (tk, tv) :: r, σ, H, Q => tk σ H fun x H1 => tv σ H1 fun y H2 => tPairs r σ H2 fun ps H3 => Q ((x, y) :: ps) H3
abbrev VV : List (V × V) → List (Value × Value) → Prop := Paired fun p q => RelV p.1 q.1 ∧ RelV p.2 q.2
def PPs (X : Cx) (pos : Pos) (keys : List (Option Expr)) (values : List Expr) (trs : List (TE × TE)) : Prop :=
  ∀ (pins : List (Addr × Obj)) (s : Shared) (σ : St) (H : Hp) (Q : List (V × V) → Hp → Prop), Inv X pins σ H s → tPairs trs σ H Q →
    wpAny (model X.prog X.w) X.A (evalPairs (pairTrees keys values X.env pos)) (fun vs s' => ∃ ps H', Inv X pins σ H' s' ∧ VV ps vs ∧ Q ps H') X.xe s
theorem pps_nil {X : Cx} {pos : Pos} : PPs X pos [] [] [] := fun pins s σ H Q I h => pairTrees_nil_walk ⟨[], H, I, .nil, h⟩
theorem pps_cons {X : Cx} {pos : Pos} {k v : Expr} {ks : List (Option Expr)} {vs : List Expr} {tk tv : TE} {trs : List (TE × TE)} (hk : PE X k tk) (hv : PE X v tv) (hr : PPs X pos ks vs trs) :
    PPs X pos (some k :: ks) (v :: vs) ((tk, tv) :: trs) := fun pins s σ H Q I h =>
  pairTrees_cons_walk (thn (hk pins s σ H _ I h) fun u s1 ⟨x, H1, I1, rx, q1⟩ => thn (hv pins s1 σ H1 _ I1 q1) fun w2 s2 ⟨y, H2, I2, ry, q2⟩ =>
    thn (hr pins s2 σ H2 _ I2 q2) fun ws s3 ⟨ps, H3, I3, rel, q3⟩ => ⟨(x, y) :: ps, H3, I3, .cons ⟨rx, ry⟩ rel, q3⟩)

def mergeK (kvs more : List (Key × V)) : List (Key × V) := more.foldl (fun acc kv => putK acc kv.1 kv.2) kvs
theorem KV.merge : ∀ {more : List (Key × V)} {rs : List (Key × Value)} {kvs : List (Key × V)} {vs : List (Key × Value)}, KV more rs → KV kvs vs → KV (mergeK kvs more) (merged vs rs) := by
  intro more rs kvs vs r
  unfold KV at r
  induction r generalizing kvs vs with
  | nil => intro q; exact q
  | @cons p q ps qs h t ih =>
    intro r0
    have e : KV (putK kvs p.1 p.2) (stored vs q.1 q.2) := by
      have := r0.put p.1 h.2
      rw [← h.1]; exact this
    exact ih e
theorem length_mergeK : ∀ (more kvs : List (Key × V)), (mergeK kvs more).length ≤ kvs.length + more.length
  | [], kvs => by show kvs.length ≤ kvs.length + 0; omega
  | p :: r, kvs => by
    have h1 := length_mergeK r (putK kvs p.1 p.2)
    have h2 := length_putK kvs p.1 p.2
    show (mergeK (putK kvs p.1 p.2) r).length ≤ _
    rw [List.length_cons]; omega
theorem carries_of {P : Program} {w : World} : ∀ {kvs : List (Key × V)} {ws : List (Value × Value)}, VV (kvs.map fun kv => (kV kv.1, kv.2)) ws → ∃ rs, Carries (mixKind P w) ws rs ∧ KV kvs rs
  | [], _, r => by rw [List.map_nil] at r; cases r; exact ⟨[], True.intro, .nil⟩
  | p :: kvs, _, r => by
    rw [List.map_cons] at r
    cases r with
    | @cons a b as bs h t =>
      obtain ⟨rs, c, q⟩ := carries_of (P := P) (w := w) t
      obtain ⟨b1, b2⟩ := b
      exact ⟨(p.1, b2) :: rs, ⟨kV_is h.1, rfl, c⟩, .cons ⟨rfl, h.2⟩ q⟩
/-- {k: v, ..} with keys ints and texts; the new dict stands empty while the pairs are made -/
def tDisp (trs : List (TE × TE)) : TE := fun σ H Q => ∀ p, H p = none → tPairs trs σ (upd H p (.dK [])) fun ps H2 => H2 p = some (.dK []) ∧ ∃ kvs : List (Key × V), ps = kvs.map (fun kv => (kV kv.1, kv.2)) ∧ kvs.length ≤ 15 ∧ Q (.ref p) (upd H2 p (.dK (mergeK [] kvs)))
theorem pe_disp {X : Cx} {pos : Pos} {keys : List (Option Expr)} {values : List Expr} {trs : List (TE × TE)} (h : PPs X pos keys values trs) (hall : keys.all (·.isSome) = true) (hl : keys.length = values.length) (h0 : keys ≠ [])
    (h15 : keys.length ≤ 15) : PE X (.Dict keys values pos) (tDisp trs) := by
  intro pins s σ H Q I q
  have hn := I.hok.fresh (Nat.le_refl s.heap.objs.size)
  have I1 := I.laid (a := s.heap.objs.size) (o := .dK []) (h' := s.heap.push { cls := .type "dict", data := .dict #[] }) (t' := s.toks) (fun _ _ q => Heap.get?_push_of_some _ q) (Nat.le_refl _) (dk_empty s.heap I.big)
  refine wpAny_Dict_walk (knd := mixKind X.prog X.w) hall hl h0 h15 (thn (h pins _ σ _ _ I1 (q _ hn)) fun ws s2 ⟨ps, H2, I2, rel, e, kvs, ep, lk, q2⟩ => ?_)
  subst ep
  obtain ⟨rs, c, rk⟩ := carries_of (P := X.prog) (w := X.w) rel
  obtain ⟨z, hd, vs0, r0, dd⟩ := dk_of I2.hok e
  cases r0
  refine ⟨rs, c, dd, fun h' dd' hs => ⟨.ref s.heap.objs.size, _, ?_, rfl, q2⟩⟩
  have hz : (mergeK [] kvs).length ≤ sizeLine := by
    have h1 := length_mergeK kvs []
    rw [List.length_nil] at h1
    rw [sizeLine_eq]; omega
  have he : ∃ q, h'.get? s.heap.objs.size = some q := let ⟨q, _, _, hq, _⟩ := dd'; ⟨q, hq⟩
  exact d_write I2 (by rw [e]; exact True.intro) hs he (dk_new hz hd (rk.merge .nil) dd')

/-! ### methods -/
structure M2 (X : Cx) (o : Expr) (m : Str) (apos : Pos) (e f : Expr) (cpos : Pos) : Prop where
  base : attributeBase o m X.env (eval o X.env) = eval o X.env
  few : ((backTo cpos (starEach [e, f] X.env)).all (fun x => !x.1) && (backToKw cpos (keywordEach [] X.env)).all (fun x => x.1.isSome)
    && decide (([e, f] : List Expr).length + ([] : List Keyword).length + (if ([] : List Keyword).isEmpty then 0 else 1) < 30)) = true
  line : (apos.endLine == cpos.line) = true
  trees : backTo cpos (starEach [e, f] X.env) = [(false, eval e X.env), (false, eval f X.env)]

/-- a is a dict, whatever its keys -/
def IsD (H : Hp) (a : Addr) : Prop := (∃ kvs, Rd H a (.dK kvs)) ∨ ∃ kvs, Rd H a (.dT kvs)
theorem isD_at {X : Cx} {pins : List (Addr × Obj)} {σ : St} {H : Hp} {s : Shared} {a : Addr} (I : Inv X pins σ H s) (d : IsD H a) :
    s.TypeIs (.ref a) "dict" ∧ (∀ b, Value.ref a = .ref b → ∃ ob, s.heap.get? b = some ob ∧ ob.dict = none) ∧ (a == sysModules) = false := by
  rcases d with ⟨kvs, e⟩ | ⟨kvs, e⟩
  · obtain ⟨_, hd, vs, _, dd⟩ := dk_rd I.hok e
    refine ⟨dd.typeIs, fun b q => ?_, hd⟩
    cases q
    obtain ⟨ob, _, _, h1, h2, _⟩ := dd
    exact ⟨ob, h1, h2.2.1⟩
  · obtain ⟨_, hd, xs, _, dd⟩ := dt_rd I.hok e
    refine ⟨dd.typeIs, fun b q => ?_, hd⟩
    cases q
    obtain ⟨ob, _, _, h1, h2, _⟩ := dd
    exact ⟨ob, h1, h2.2.1⟩

section
variable {X : Cx} {pins : List (Addr × Obj)} {σ : St} {H : Hp} {s : Shared} {a : Addr} {y d : V} {u r : Value} {o : Option V} {A : Around} {E : Value → Shared → Prop}
/-- d.get(y, x) -/
theorem d_get2 {Q : Value → Shared → Prop} (hu : A.units + 1 < cLine) (I : Inv X pins σ H s) (g : DGet H a y o) (ry : RelV y u) (rd : RelV d r) (h : ∀ w' s', Inv X pins σ H s' → RelV (o.getD d) w' → Q w' s') :
    wpAny (model X.prog X.w) A (call (.builtin "dict.get") [.ref a, u, r]) Q E s := by
  rcases g with ⟨kvs, k, e, ey, l⟩ | ⟨kvs, k, b, e, ey, eb, l⟩
  · subst ey
    obtain ⟨z, hd, vs, rel, dd⟩ := dk_rd I.hok e
    refine call_meetsIn PySem.F.slot_dict_get dd.typeIs PySem.F.entry_dict_get (PySem.F.args_dict_get_3 _ _ _) (meets_dict_get_default (mixKind X.prog X.w) a (kV_is ry) hd r) ⟨_, dd.mapOf, h _ _ (I.tok _) ?_⟩
    rw [l]
    exact (rel.val k).getD rd
  · subst ey
    cases (show u = Value.ref b from ry)
    obtain ⟨z, hd, xs, rel, dd⟩ := dt_rd I.hok e
    refine call_meetsIn PySem.F.slot_dict_get dd.typeIs PySem.F.entry_dict_get (PySem.F.args_dict_get_3 _ _ _) (meetsH_dict_get_default (tupleKind (mixKind X.prog X.w)) a b hd r) ⟨tupleKind_room_in1 hu, k, xs, key_of I.hok eb, dd, h _ _ (I.tok _) ?_⟩
    rw [l]
    exact (rel.val k).getD rd
end

def tDGet2 (td ty tx : TE) : TE := fun σ H Q => td σ H fun x H1 => ∃ a, x = .ref a ∧ IsD H1 a ∧ ty σ H1 fun y H2 => tx σ H2 fun z H3 => ∃ o, DGet H3 a y o ∧ Q (o.getD z) H3
section
variable {X : Cx} {o e f : Expr} {apos cpos : Pos} {td ty tx : TE}
theorem pe_dget2 (hu : X.A.units + 1 < cLine) (ho : PE X o td) (he : PE X e ty) (hf : PE X f tx) (m : M2 X o "get" apos e f cpos) : PE X (.Call (.Attribute o "get" apos) [e, f] [] cpos) (tDGet2 td ty tx) := by
  intro pins s σ H Q I h
  refine wpAny_Call_method m.base m.few m.line PySem.F.plainAttrs_dict PySem.F.slot_dict_get PySem.F.type_dict_get (thn (ho pins s σ H _ I h) fun u s1 ⟨x, H1, I1, rx, a, ex, d, q1⟩ => ?_)
  subst ex
  obtain rfl : u = Value.ref a := rx
  obtain ⟨t1, t2, _⟩ := isD_at I1 d
  refine ⟨t1, t2, ?_⟩
  rw [m.trees]
  refine Calls.callWith_builtin rfl (Calls.evalArgs_plain (Calls.spliced_cons (thn (he pins s1 σ H1 _ I1 q1) fun iv s2 ⟨y, H2, I2, ry, q2⟩ =>
    Calls.spliced_cons (thn (hf pins s2 σ H2 _ I2 q2) fun fv s3 ⟨z, H3, I3, rz, ov, g, q3⟩ => Calls.spliced_nil ?_))))
  exact d_get2 hu I3 g ry rz fun w' s4 I4 rw' => ⟨_, H3, I4, rw', q3⟩
end

/-! ### dict(d): a copy -/
section
variable {X : Cx} {pins : List (Addr × Obj)} {σ : St} {H : Hp} {s : Shared} {a : Addr} {kvs : List (Key × V)} {A : Around} {E : Value → Shared → Prop}
end

section
variable {X : Cx} {pins : List (Addr × Obj)} {σ : St} {H : Hp} {s : Shared} {a : Addr} {y : V} {u : Value} {A : Around} {E : Value → Shared → Prop}
end
end L2

namespace HT
open PySem PyProof.Rows

section
open PySem.SeqAt
open PySem.AutoSeq1 (wpAny_loadPart')
open PySem.MeetsSeq PySem.MeetsSeq2 PySem.MeetsSeq3

end

section
variable {prog : Program} {w : World} {A : Around} {E : Value → Shared → Prop} {s : Shared}

/-- t + u, t not empty -/
theorem cat_tup {t b : Addr} {vs ws : List Value} {Q : Value → Shared → Prop} (ht : IsTup s.heap t vs.toArray) (hb : IsTup s.heap b ws.toArray) (hv : vs ≠ [])
    (h1 : ws = [] → Q (.ref t) s) (h2 : ws ≠ [] → Q (.ref s.heap.objs.size) { s with heap := s.heap.push { cls := .type "tuple", data := .seq (vs ++ ws).toArray } })
    (hsz : vs.length + ws.length ≤ sizeLine) : wpAny (model prog w) A (binaryOp .Add (.ref t) (.ref b)) Q E s := by
  obtain ⟨⟨cls, dd, data, sl⟩, ho, hc, n, hd⟩ := id ht
  obtain ⟨⟨cls2, dd2, data2, sl2⟩, ho2, hc2, n2, hd2⟩ := id hb
  simp only at hc hd hc2 hd2
  subst hc hd hc2 hd2
  have e : vs.toArray ++ ws.toArray = (vs ++ ws).toArray := by simp
  by_cases hw : ws = []
  · exact concat_meets ⟨_, ho, rfl⟩ ⟨_, ho2, rfl⟩ noFill_tuple_add seq_tuple_add PySem.F.slot_tuple_add PySem.F.entry_tuple_add (PySem.F.args_tuple_add_2 _ _)
      (tuple_addW1 t b vs.toArray ws.toArray n n2 dd dd2 sl sl2 (by simpa using hv) (by simp [hw])) ⟨ho, ho2, h1 hw⟩
  · refine concat_meets ⟨_, ho, rfl⟩ ⟨_, ho2, rfl⟩ noFill_tuple_add seq_tuple_add PySem.F.slot_tuple_add PySem.F.entry_tuple_add (PySem.F.args_tuple_add_2 _ _)
      (tuple_addW2 t b vs.toArray ws.toArray n n2 dd dd2 sl sl2 (by simpa using hv) (by simpa using hw) (by rw [List.size_toArray, List.size_toArray]; exact hsz)) ⟨ho, ho2, ?_⟩
    rw [e]
    exact h2 hw

/-! ### t[a:b], not the whole -/
/-- a slice's bound as a place among n (d where it is left out) -/
def sIx (n d : Nat) : Option Int → Nat
  | none => d
  | some v => if v < 0 then (v + (n : Int)).toNat else min v.toNat n

end
end HT

namespace L2
open PySem PySem.Spec PyProof.Rows

/-! ### the parts of a slice -/
abbrev TO := St → Hp → (Option Int → Hp → Prop) → Prop
/-- a slice's part (left out, or an int) -/
def PO (X : Cx) (e : Option Expr) (t : TO) : Prop :=
  ∀ (pins : List (Addr × Obj)) (s : Shared) (σ : St) (H : Hp) (Q : Option Int → Hp → Prop), Inv X pins σ H s → t σ H Q →
    wpAny (model X.prog X.w) X.A (evalPart e X.env) (fun u s' => ∃ o H', Inv X pins σ H' s' ∧ IsPart u o ∧ Q o H') X.xe s
def tNoPart : TO := fun _ H Q => Q none H
def tPart (t : TE) : TO := fun σ H Q => t σ H fun x H1 => ∃ i, x = .int i ∧ Q (some i) H1

section
variable {X : Cx} {e : Expr} {te : TE} {lo hi : Option Expr} {tl th : TO} {pos p2 : Pos}

theorem po_none : PO X none tNoPart := by
  intro pins s σ H Q I h
  rw [evalPart_none]
  exact wpAny_pure ⟨none, H, I, .none, h⟩
theorem po_some (h : PE X e te) : PO X (some e) (tPart te) := by
  intro pins s σ H Q I hw
  rw [evalPart_some]
  refine thn (h pins s σ H _ I hw) fun u s1 ⟨x, H1, I1, r1, q1⟩ => ?_
  obtain ⟨i, rfl, q⟩ := q1
  obtain ⟨t, rfl⟩ := r1
  exact ⟨some i, H1, I1, .int i t, q⟩

/-- what a slice of a value is, by values: the slice object stands at sl -/
def SlR (X : Cx) (r : V → Option Int → Option Int → Hp → VK → Prop) : Prop :=
  ∀ (pins : List (Addr × Obj)) (s : Shared) (σ : St) (H : Hp) (x : V) (v vl vu : Value) (lo hi : Option Int) (sl : Addr) (Q : VK), Inv X pins σ H s → RelV x v → s.heap.IsSliceOf sl vl vu .none → IsPart vl lo → IsPart vu hi → r x lo hi H Q →
    ∃ T id, typeLookup (.type T) "__getitem__" = pure (some (.builtin id)) ∧ s.TypeIs v T ∧ wpAny (model X.prog X.w) X.A (getItem v (.ref sl)) (EP X pins σ Q) X.xe s
def tSl (r : V → Option Int → Option Int → Hp → VK → Prop) (te : TE) (tl th : TO) : TE := fun σ H Q => te σ H fun x H1 => tl σ H1 fun l H2 => th σ H2 fun u H3 => r x l u H3 Q
/-- a[lo:hi], any a -/
theorem pe_slice {r : V → Option Int → Option Int → Hp → VK → Prop} (hr : SlR X r) (he : PE X e te) (hl : PO X lo tl) (hu : PO X hi th) : PE X (.Subscript e (.Slice lo hi none p2) pos) (tSl r te tl th) := by
  intro pins s σ H Q I h
  refine Subscript_ (thn (he pins s σ H _ I h) fun v s1 ⟨x, H1, I1, r1, q1⟩ => ?_)
  refine wpAny_Slice (thn (hl pins s1 σ H1 _ I1 q1) fun vl s2 ⟨l, H2, I2, pl, q2⟩ => thn (hu pins s2 σ H2 _ I2 q2) fun vu s3 ⟨u, H3, I3, pu, q3⟩ => ?_)
  rw [evalPart_none]
  refine wpAny_pure ?_
  have I4 : Inv X pins σ H3 { s3 with heap := s3.heap.push { cls := .type "slice", data := .fields #[vl, vu, .none] } } := I3.kept (t' := s3.toks) fun b ob q => Heap.get?_push_of_some _ q
  obtain ⟨T, id, hT, ht, hg⟩ := hr pins { s3 with heap := s3.heap.push { cls := .type "slice", data := .fields #[vl, vu, .none] } } σ H3 x v vl vu l u s3.heap.objs.size Q I4 r1 (Heap.IsSliceOf.new ..) pl pu q3
  show wpAny (model X.prog X.w) X.A (subscriptTail e (.Slice lo hi none p2) v (.ref s3.heap.objs.size)) (EP X pins σ Q) X.xe { s3 with heap := s3.heap.push { cls := .type "slice", data := .fields #[vl, vu, .none] } }
  exact tail_any (ops := [.ref s3.heap.objs.size, v]) ht hT hg (by with_unfolding_all rfl)

/-- the items of xs[lo:hi] -/
def cutV (xs : List V) (lo hi : Option Int) : List V := (xs.drop (HT.sIx xs.length 0 lo)).take (HT.sIx xs.length xs.length hi - HT.sIx xs.length 0 lo)
theorem cutV_length (xs : List V) (lo hi : Option Int) : (cutV xs lo hi).length ≤ xs.length := by
  unfold cutV
  rw [List.length_take, List.length_drop]
  omega

/-! ### t < u, t + u -/
/-- t + u, t not empty: u empty gives t itself -/
def rCatT (K : PySem.W.Frag) : R2 := fun x y H Q => ∃ a b xs ys, x = .ref a ∧ y = .ref b ∧ SqT K H a xs ∧ SqT K H b ys ∧ xs ≠ [] ∧ xs.length + ys.length ≤ sizeLine ∧
  (ys = [] → Q (.ref a) H) ∧ (ys ≠ [] → ∀ p, H p = none → Q (.ref p) (upd H p (.tup (xs ++ ys))))
theorem Vals.nil_iff {xs : List V} {us : List Value} (r : Vals xs us) : us = [] ↔ xs = [] := by
  cases r with
  | nil => simp
  | cons _ _ => simp
theorem op_catT : OpR X (binaryOp .Add) (rCatT X.K) := by
  intro pins s σ H x y v u Q I rx ry h
  obtain ⟨a, b, xs, ys, rfl, rfl, ha, hb, hx, hz, q1, q2⟩ := h
  cases rx
  cases ry
  obtain ⟨its, r1, p1, _⟩ := I.tuple ha
  obtain ⟨its2, r2, p2, _⟩ := I.tuple hb
  refine HT.cat_tup p1 p2 (fun z => hx (r1.nil_iff.mp z)) (fun z => ⟨.ref a, H, I, rfl, q1 (r2.nil_iff.mp z)⟩) (fun z => ?_) (by rw [← r1.length, ← r2.length]; exact hz)
  refine ⟨.ref s.heap.objs.size, _, I.laid (t' := s.toks) (o := .tup (xs ++ ys)) (fun b ob q => Heap.get?_push_of_some _ q) (Nat.le_refl _) ?_, rfl, q2 (fun w => z (r2.nil_iff.mpr w)) _ (I.hok.fresh (Nat.le_refl _))⟩
  exact ⟨by rw [List.length_append]; exact hz, _, r1.append r2, IsTup.new _ _, NoD.new _ rfl⟩
end
end L2

namespace L2
open PySem PySem.Spec PyProof.Rows

/-! ### places -/
/-- the place that an index of any sign means -/
def ixN (n : Nat) (i : Int) : Option Nat := if 0 ≤ i then (if i < n then some i.toNat else none) else if -(n : Int) ≤ i then some (i + n).toNat else none
def atI {α : Type} (xs : List α) (i : Int) : Option α := (ixN xs.length i).bind fun j => xs[j]?
theorem ixN_seq {n : Nat} {i : Int} {j : Nat} (h : ixN n i = some j) : seqIndex? i n = some j ∧ j < n ∧ -(n : Int) ≤ i ∧ i < n := by
  unfold ixN at h
  by_cases h0 : 0 ≤ i
  · rw [if_pos h0] at h
    by_cases h1 : i < n
    · rw [if_pos h1] at h
      have e : i.toNat = j := Option.some.inj h
      exact ⟨by rw [seqIndex_of h0 h1, e], by omega, by omega, h1⟩
    · rw [if_neg h1] at h; cases h
  · rw [if_neg h0] at h
    by_cases h1 : -(n : Int) ≤ i
    · rw [if_pos h1] at h
      have e : (i + n).toNat = j := Option.some.inj h
      exact ⟨by rw [seqIndex_neg (by omega) h1, e], by omega, h1, by omega⟩
    · rw [if_neg h1] at h; cases h
theorem atI_get {α : Type} {xs : List α} {i : Int} {v : α} (h : atI xs i = some v) : ∃ j, seqIndex? i xs.length = some j ∧ xs[j]? = some v ∧ j < xs.length ∧ -(xs.length : Int) ≤ i ∧ i < xs.length := by
  unfold atI at h
  cases e : ixN xs.length i with
  | none => rw [e] at h; cases h
  | some j =>
    rw [e] at h
    obtain ⟨h1, h2, h3, h4⟩ := ixN_seq e
    exact ⟨j, h1, h, h2, h3, h4⟩
theorem atI_nat {α : Type} {xs : List α} {j : Nat} {v : α} (h : xs[j]? = some v) : atI xs (j : Int) = some v := by
  have hj : j < xs.length := (List.getElem?_eq_some_iff.mp h).1
  have e : ixN xs.length (j : Int) = some j := by
    unfold ixN
    rw [if_pos (by omega), if_pos (by omega)]; simp
  unfold atI; rw [e]; exact h

/-! ### what may be subscripted -/
/-- what stands as an index of a plain subscript -/
def PlainIx (b : Expr) : Prop := ∀ o i, subscripted b false o i = operate [o, i] (getItem o i)
/-- a subscript by values -/
def IxR (X : Cx) (r : R2) : Prop :=
  ∀ (value slice : Expr) (pins : List (Addr × Obj)) (s : Shared) (σ : St) (H : Hp) (x y : V) (v u : Value) (Q : VK), Inv X pins σ H s → RelV x v → RelV y u → r x y H Q →
    subscripted slice false v u = operate [v, u] (getItem v u) → wpAny (model X.prog X.w) X.A (subscriptTail value slice v u) (EP X pins σ Q) X.xe s
/-- a call of a builtin's method by values: the receiver, the arguments -/
def MtR (X : Cx) (id : String) (r : V → List V → Hp → VK → Prop) : Prop :=
  ∀ (pins : List (Addr × Obj)) (s : Shared) (σ : St) (H : Hp) (x : V) (xs : List V) (v : Value) (us : List Value) (Q : VK), Inv X pins σ H s → RelV x v → Vals xs us → r x xs H Q →
    wpAny (model X.prog X.w) X.A (call (.builtin id) (v :: us)) (EP X pins σ Q) X.xe s
section
variable {X : Cx} {a b : Expr} {ta tb : TE} {pos : Pos}
/-- a[b] -/
theorem pe_ix {r : R2} (hr : IxR X r) (ha : PE X a ta) (hb : PE X b tb) (hs : PlainIx b) : PE X (.Subscript a b pos) (tOp r ta tb) := by
  intro pins s σ H Q I h
  exact Subscript_ (binT ha hb I h fun v u s2 x y H2 I2 rx ry q => hr a b pins s2 σ H2 x y v u Q I2 rx ry q (hs _ _))

def rIxL (K : PySem.W.Frag) : R2 := fun x y H Q => ∃ p xs i v, x = .ref p ∧ y = .int i ∧ SqL K H p xs ∧ atI xs i = some v ∧ Q v H
def rIxT (K : PySem.W.Frag) : R2 := fun x y H Q => ∃ p xs i v, x = .ref p ∧ y = .int i ∧ SqT K H p xs ∧ atI xs i = some v ∧ Q v H
def rIxS : R2 := fun x y H Q => ∃ z i c, x = .str z ∧ y = .int i ∧ z.length ≤ sizeLine ∧ atI z.cps.toList i = some c ∧ Q (.str ⟨#[c]⟩) H
theorem ix_list : IxR X (rIxL X.K) := by
  intro value slice pins s σ H x y v u Q I rx ry h hs
  obtain ⟨p, xs, i, z, rfl, rfl, hq, he, q⟩ := h
  cases rx
  obtain ⟨t, rfl⟩ := ry
  obtain ⟨its, r, pl, hz⟩ := I.list hq
  obtain ⟨j, h1, h2, h3, h4, h5⟩ := atI_get he
  obtain ⟨w, ew, rw'⟩ := r.get h2
  have hl := r.length
  have hn := line63
  have fin : EP X pins σ Q w s := ⟨z, H, I, rw', q⟩
  by_cases h0 : 0 ≤ i
  · have hj : i.toNat = j := by
      rw [seqIndex_of h0 h5] at h1
      exact Option.some.inj h1
    exact item_listR pl.isList h0 (by omega) (by rw [hj]; simpa using ew) fin hs
  · have hj : (i + (its.toArray.size : Int)).toNat = j := by
      rw [seqIndex_neg (by omega) h4] at h1
      rw [List.size_toArray, ← hl]
      exact Option.some.inj h1
    exact subscriptTail_builtinR (x := w) pl.isList.typeIs slot_list_getitem.lookup
      (wpAny_getItem_list_neg (Q := fun r s' => r = w ∧ EP X pins σ Q r s') pl.isList (by omega) (by rw [List.size_toArray] <;> omega) (by omega) (by rw [hj]; simpa using ew) ⟨rfl, fin⟩) hs
theorem ix_tup : IxR X (rIxT X.K) := by
  intro value slice pins s σ H x y v u Q I rx ry h hs
  obtain ⟨p, xs, i, z, rfl, rfl, hq, he, q⟩ := h
  cases rx
  obtain ⟨t, rfl⟩ := ry
  obtain ⟨its, r, pl, hz⟩ := I.tuple hq
  obtain ⟨j, h1, h2, h3, h4, h5⟩ := atI_get he
  obtain ⟨w, ew, rw'⟩ := r.get h2
  have hl := r.length
  have hn := line63
  have fin : EP X pins σ Q w s := ⟨z, H, I, rw', q⟩
  exact subscriptTail_builtinR (x := w) pl.typeIs slot_tuple_getitem.lookup
    (getItem_tuple (j := j) (Q := fun r s' => r = w ∧ EP X pins σ Q r s') pl (by omega) (by omega) (by rw [List.size_toArray, ← hl]; exact h1) (by simpa using ew) ⟨rfl, fin⟩) hs
theorem ix_str : IxR X rIxS := by
  intro value slice pins s σ H x y v u Q I rx ry h hs
  obtain ⟨z, i, c, rfl, rfl, hz, he, q⟩ := h
  obtain ⟨t, rfl⟩ := rx
  obtain ⟨t', rfl⟩ := ry
  obtain ⟨j, h1, h2, h3, h4, h5⟩ := atI_get he
  have hl : z.cps.toList.length = z.length := by simp [Str.length]
  rw [hl] at h1 h4 h5
  have hn := line63
  exact tail_any (typeIs_str s z t) slot_str_getitem.lookup (getItem_str (c := c) (by
    have e1 : decide (i < -(2 ^ 63 : Int)) = false := decide_eq_false (by omega)
    have e2 : decide (i ≥ 2 ^ 63) = false := decide_eq_false (by omega)
    rw [e1, e2, Bool.or_false]) (by rw [h1]; simpa using h2) ⟨.str ⟨#[c]⟩, H, I.tok _, ⟨_, rfl⟩, q⟩) hs

/-! ### xs[i] = v, any sign -/

/-! ### slices -/
theorem slice_bounds (lo hi : Option Int) (n : Nat) : (sliceBounds lo hi none n).1 = ((HT.sIx n 0 lo : Nat) : Int) ∧ (sliceBounds lo hi none n).2.1 = ((HT.sIx n n hi : Nat) : Int) ∧ (sliceBounds lo hi none n).2.2 = 1 := by
  refine ⟨?_, ?_, rfl⟩
  · cases lo with
    | none => simp [sliceBounds, HT.sIx]
    | some i =>
      simp only [sliceBounds, HT.sIx, Option.getD_none, show (1 : Int) > 0 by decide, if_true]
      by_cases h : i < 0
      · simp only [h, if_true] <;> omega
      · simp only [h, if_false] <;> omega
  · cases hi with
    | none => simp [sliceBounds, HT.sIx]
    | some i =>
      simp only [sliceBounds, HT.sIx, Option.getD_none, show (1 : Int) > 0 by decide, if_true]
      by_cases h : i < 0
      · simp only [h, if_true] <;> omega
      · simp only [h, if_false] <;> omega
theorem slicePick_cut (its : List Value) (lo hi : Option Int) : slicePick its.toArray lo hi none = ((its.drop (HT.sIx its.length 0 lo)).take (HT.sIx its.length its.length hi - HT.sIx its.length 0 lo)).toArray := by
  obtain ⟨h1, h2, h3⟩ := slice_bounds lo hi its.toArray.size
  unfold slicePick
  rw [h1, h2, h3]
  simp only [sliceRange_one, pick_run, List.size_toArray] <;> rfl
/-- xs[lo:hi] of a list: a new list -/
def rSlL (K : PySem.W.Frag) : V → Option Int → Option Int → Hp → VK → Prop := fun x lo hi H Q => ∃ a xs, x = .ref a ∧ SqL K H a xs ∧ ∀ p, H p = none → Q (.ref p) (upd H p (.lst (cutV xs lo hi)))
theorem sl_list : SlR X (rSlL X.K) := by
  intro pins s σ H x v vl vu lo hi sl Q I rx hs pl pu h
  obtain ⟨a, xs, rfl, hx, q⟩ := h
  cases rx
  obtain ⟨its, r, ht, hz⟩ := I.list hx
  have hlen := r.length
  refine ⟨"list", _, slot_list_getitem.lookup, ht.isList.typeIs, ?_⟩
  refine wpAny_getItem_list_slice ht.isList hs pl pu .none (by simp) ?_ (by rw [List.size_toArray] <;> omega)
  rw [slicePick_cut, ← hlen]
  refine ⟨.ref s.heap.objs.size, _, I.laid (t' := s.toks) (o := .lst (cutV xs lo hi)) (fun b ob q => Heap.get?_push_of_some _ q) (Nat.le_refl _) ?_, rfl, q _ (I.hok.fresh (Nat.le_refl _))⟩
  exact ⟨Nat.le_trans (cutV_length xs lo hi) hz, _, 0, (r.drop (HT.sIx xs.length 0 lo)).take (HT.sIx xs.length xs.length hi - HT.sIx xs.length 0 lo), Heap.get?_push_size _ rfl⟩

/-! ### in, not in: flat items -/

/-! ### len, list(x), tuple(x) of any list or tuple that is read -/
theorem call_len_seq : CallR X (.builtin "len") (fun xs H Q => ∃ p ys, xs = [.ref p] ∧ (SqL X.K H p ys ∨ SqT X.K H p ys) ∧ Q (.int ys.length) H) := by
  intro pins s σ H xs us Q I r h
  obtain ⟨p, ys, rfl, hq, q⟩ := h
  obtain ⟨u, rfl, rx⟩ := vals1 r
  cases rx
  have hn := line63
  rcases hq with hq | hq
  · obtain ⟨its, r', pl, hz⟩ := I.list hq
    have hlen := r'.length
    exact Calls.call_len_list pl.isList (by simp only [List.size_toArray] <;> omega) ⟨.int ys.length, H, I.tok _, ⟨s.toks + 1, by rw [List.size_toArray, hlen]⟩, q⟩
  · obtain ⟨its, r', pl, hz⟩ := I.tuple hq
    have hlen := r'.length
    exact len_tuple pl (by simp only [List.size_toArray] <;> omega) ⟨.int ys.length, H, I.tok _, ⟨s.toks + 1, by rw [List.size_toArray, hlen]⟩, q⟩
theorem call_len_str : CallR X (.builtin "len") (fun xs H Q => ∃ z, xs = [.str z] ∧ z.length ≤ sizeLine ∧ Q (.int z.length) H) := by
  intro pins s σ H xs us Q I r h
  obtain ⟨z, rfl, hz, q⟩ := h
  obtain ⟨u, rfl, t, rfl⟩ := vals1 r
  have hn := line63
  exact len_str (by omega) ⟨.int z.length, H, I.tok _, ⟨_, rfl⟩, q⟩
theorem call_tuple_of : CallR X (.type "tuple") (fun xs H Q => ∃ p ys, xs = [.ref p] ∧ ((SqL X.K H p ys ∧ ∀ l, H l = none → Q (.ref l) (upd H l (.tup ys))) ∨ (SqT X.K H p ys ∧ Q (.ref p) H))) := by
  intro pins s σ H xs us Q I r h
  obtain ⟨p, ys, rfl, h⟩ := h
  obtain ⟨u, rfl, rx⟩ := vals1 r
  cases rx
  rcases h with ⟨hq, q⟩ | ⟨hq, q⟩
  · obtain ⟨its, r', pl, hz⟩ := I.list hq
    have hlen := r'.length
    refine call_tuple_list pl.isList (fun h' kp => ?_) (by simp only [List.size_toArray] <;> omega)
    have I1 : Inv X pins σ H { s with heap := h' } := I.kept (t' := s.toks) kp
    have I2 : Inv X pins σ (upd H h'.objs.size (.tup ys)) { s with heap := h'.push { cls := .type "tuple", data := .seq its.toArray } } :=
      I1.laid (t' := s.toks) (fun b o e => Heap.get?_push_of_some _ e) (Nat.le_refl _) (show ObjOk X.prog X.w _ _ _ (.tup ys) from ⟨hz, its, r', IsTup.new _ _, NoD.new _ rfl⟩)
    exact ⟨.ref h'.objs.size, _, I2, rfl, q _ (I1.hok.fresh (Nat.le_refl _))⟩
  · obtain ⟨its, r', pl, hz⟩ := I.tuple hq
    exact call_tuple_same pl ⟨.ref p, H, I, rfl, q⟩

/-! ### the call of a builtin's method: o.m(..) -/
/-- the value is of that builtin type -/
def tyV (K : PySem.W.Frag) (T : String) (x : V) (H : Hp) : Prop := match x with
  | .str _ => T = "str"
  | .int _ => T = "int"
  | .ref p => (T = "list" ∧ ∃ xs, SqL K H p xs) ∨ (T = "tuple" ∧ ∃ o, K.lookup p = some o ∧ o.cls = .type "tuple" ∧ o.dict = none) ∨
      (T = "dict" ∧ ((∃ kvs, H p = some (.dK kvs)) ∨ ∃ kvs, H p = some (.dT kvs))) ∨ (T = "set" ∧ ∃ S n, H p = some (.set S n))
  | _ => False
theorem tyV_is {pins : List (Addr × Obj)} {σ : St} {H : Hp} {s : Shared} {T : String} {x : V} {v : Value} (I : Inv X pins σ H s) (r : RelV x v) (ty : tyV X.K T x H) :
    s.TypeIs v T ∧ ∀ a, v = .ref a → ∃ ob, s.heap.get? a = some ob ∧ ob.dict = none := by
  cases x with
  | str z =>
    obtain ⟨t, rfl⟩ := r
    cases (show T = "str" from ty)
    exact ⟨typeIs_str s z t, fun _ e => nomatch e⟩
  | int i =>
    obtain ⟨t, rfl⟩ := r
    cases (show T = "int" from ty)
    exact ⟨typeIs_int s i t, fun _ e => nomatch e⟩
  | ref p =>
    cases r
    rcases ty with ⟨rfl, xs, hq⟩ | ⟨rfl, o, hk, hc, hd⟩ | ⟨rfl, hk⟩ | ⟨rfl, S, n, hk⟩
    · obtain ⟨its, _, pl, _⟩ := I.list hq
      refine ⟨pl.isList.typeIs, fun a e => ?_⟩
      cases e
      obtain ⟨o, n, e, c, hd, _⟩ := pl
      exact ⟨o, e, hd⟩
    · refine ⟨⟨o, I.kIn p o hk, hc⟩, fun a e => ?_⟩
      cases e
      exact ⟨o, I.kIn _ o hk, hd⟩
    · have z : ∃ o, s.heap.get? p = some o ∧ o.ExactDict := by
        rcases hk with ⟨kvs, hk⟩ | ⟨kvs, hk⟩
        · obtain ⟨_, _, _, _, o, _, _, e, ex, _⟩ := I.hok p _ hk
          exact ⟨o, e, ex⟩
        · obtain ⟨_, _, _, _, o, _, _, e, ex, _⟩ := I.hok p _ hk
          exact ⟨o, e, ex⟩
      obtain ⟨o, e, ex⟩ := z
      refine ⟨⟨o, e, ex.1⟩, fun a e2 => ?_⟩
      cases e2
      exact ⟨o, e, ex.2.1⟩
    · obtain ⟨o, _, _, _, e, ex, _⟩ := I.hok p _ hk
      refine ⟨⟨o, e, ex.1⟩, fun a e2 => ?_⟩
      cases e2
      exact ⟨o, e, ex.2.1⟩
  | _ => exact False.elim ty
def tBM0 (K : PySem.W.Frag) (T : String) (r : V → List V → Hp → VK → Prop) (to : TE) : TE := fun σ H Q => to σ H fun x H1 => tyV K T x H1 ∧ r x [] H1 Q
def tBM (K : PySem.W.Frag) (T : String) (r : V → List V → Hp → VK → Prop) (to : TE) (t : TA) : TE := fun σ H Q => to σ H fun x H1 => tyV K T x H1 ∧ t σ H1 fun xs H2 => r x xs H2 Q
variable {o e : Expr} {es : List Expr} {to : TE} {t : TA} {name : Str} {apos cpos : Pos} {T id : String} {r : V → List V → Hp → VK → Prop}
theorem pe_bm0 (pa : PlainAttrs T) (slot : Slot T name id) (hty : typeOf (.builtin id) = pure (.type "method_descriptor")) (hm : MtR X id r) (ho : PE X o to)
    (hbase : attributeBase o name X.env (eval o X.env) = eval o X.env := by rfl) (hline : (apos.endLine == cpos.line) = true := by rfl) : PE X (.Call (.Attribute o name apos) [] [] cpos) (tBM0 X.K T r to) := by
  intro pins s σ H Q I h
  refine wpAny_Call_method0_late hbase hline (thn (ho pins s σ H _ I h) fun v s1 ⟨x, H1, I1, r1, ty, q1⟩ => ?_)
  obtain ⟨h1, h2⟩ := tyV_is I1 r1 ty
  exact ⟨T, id, pa, slot, hty, h1, h2, Calls.callWith_builtin rfl (PySem.evalArgs_none (hm pins s1 σ H1 x [] v [] Q I1 r1 .nil q1))⟩
theorem pe_bm (pa : PlainAttrs T) (slot : Slot T name id) (hty : typeOf (.builtin id) = pure (.type "method_descriptor")) (hm : MtR X id r) (ho : PE X o to) (ha : PA X (e :: es) t)
    (hbase : attributeBase o name X.env (eval o X.env) = eval o X.env := by rfl)
    (hfew : ((backTo cpos (starEach (e :: es) X.env)).all (fun x => !x.1) && (backToKw cpos (keywordEach [] X.env)).all (fun x => x.1.isSome)
      && decide ((e :: es).length + ([] : List Keyword).length + (if ([] : List Keyword).isEmpty then 0 else 1) < 30)) = true := by rfl)
    (hline : (apos.endLine == cpos.line) = true := by rfl) (hs : starEach (e :: es) X.env = (false, eval e X.env) :: starEach es X.env := by rfl) (hplain : (backTo cpos (starEach es X.env)).any (·.1) = false := by rfl) :
    PE X (.Call (.Attribute o name apos) (e :: es) [] cpos) (tBM X.K T r to t) := by
  intro pins s σ H Q I h
  refine wpAny_Call_method_late hbase hfew hline rfl (thn (ho pins s σ H _ I h) fun v s1 ⟨x, H1, I1, r1, ty, q1⟩ => ?_)
  obtain ⟨h1, h2⟩ := tyV_is I1 r1 ty
  refine ⟨T, id, pa, slot, hty, h1, h2, ?_⟩
  have hA := ha cpos pins s1 σ H1 _ I1 q1
  rw [hs] at hA ⊢
  refine Calls.callWith_builtin (by show (false || (backTo cpos (starEach es X.env)).any (·.1)) = false; rw [hplain] <;> rfl) (Calls.evalArgs_plain ?_)
  exact thn hA fun us s2 ⟨vs, H2, I2, r2, q2⟩ => hm pins s2 σ H2 x vs v us Q I2 r1 r2 q2
/- xs.append(e), list.index on a module's tuple .. are MtR facts of 06m -/
end
end L2

namespace L2
open PySem PySem.Spec PyProof.Rows

def MtM (X : Cx) (id : String) (r : V → List V → Hp → VK → Prop) : Prop :=
  ∀ (pins : List (Addr × Obj)) (s : Shared) (σ : St) (H : Hp) (x : V) (xs : List V) (v : Value) (us : List Value) (Q : VK), Inv X pins σ H s → RelV x v → Vals xs us → r x xs H Q →
    wpAny (model X.prog X.w) X.A (call (.builtin id) (v :: us)) (EP X pins σ Q) X.xe s

/-! ### lists of values -/
theorem Vals.one : ∀ {x : V} {us : List Value}, Vals [x] us → ∃ u, us = [u] ∧ RelV x u
  | _, _, .cons r .nil => ⟨_, rfl, r⟩

section
variable {X : Cx} {pins : List (Addr × Obj)} {σ : St} {H : Hp} {s : Shared} {l b : Addr} {xs ys zs : List V}

/-! ### the two steps: a tracked list is rewritten, a new list is laid -/
theorem Inv.lset {its its' : List Value} {n : Nat} {f : Array Value → Array Value} {t' : Nat} (I : Inv X pins σ H s) (hH : H l = some (.lst xs))
    (e : s.heap.get? l = some { cls := .type "list", data := .seq its.toArray n }) (hf : f its.toArray = its'.toArray) (hv : Vals ys its') (hz : ys.length ≤ sizeLine) :
    Inv X pins σ (upd H l (.lst ys)) { s with heap := s.heap.update l (Obj.mapSeq f), toks := t' } := by
  have q := PySem.IsL.update e f
  rw [hf] at q
  refine I.write (x := l) (e := l) (by rw [hH]; exact trivial) (.inl rfl) (fun b' u hb hu => (Heap.get?_update_other s.heap (Obj.mapSeq f) (Ne.symm hb)).trans hu) ⟨_, q⟩ ?_
  exact ⟨hz, its', _, hv, q⟩
theorem Inv.lnew {its : List Value} {t' : Nat} (I : Inv X pins σ H s) (hv : Vals ys its) (hz : ys.length ≤ sizeLine) :
    Inv X pins σ (upd H s.heap.objs.size (.lst ys)) { s with heap := s.heap.push { cls := .type "list", data := .seq its.toArray }, toks := t' } :=
  I.laid (fun _ _ q => Heap.get?_push_of_some _ q) (Nat.le_refl _) ⟨hz, its, 0, hv, Heap.get?_push_size _ rfl⟩
theorem Inv.fresh (I : Inv X pins σ H s) : H s.heap.objs.size = none := I.hok.fresh (Nat.le_refl _)
theorem Inv.lstM (I : Inv X pins σ H s) (hH : H l = some (.lst xs)) : xs.length ≤ sizeLine ∧ ∃ (its : List Value) (n : Nat), Vals xs its ∧ xs.length = its.length ∧ s.heap.get? l = some { cls := .type "list", data := .seq its.toArray n } := by
  obtain ⟨z, its, n, r, e⟩ := I.hok l _ hH
  exact ⟨z, its, n, r, r.length, e⟩

end

section
variable {X : Cx}

/-! ### methods -/
def rAppend : V → List V → Hp → VK → Prop := fun x vs H Q => ∃ l xs y, x = .ref l ∧ vs = [y] ∧ H l = some (.lst xs) ∧ xs.length < sizeLine ∧ Q .non (upd H l (.lst (xs ++ [y])))
theorem mt_append : MtM X "list.append" rAppend := by
  intro pins s σ H x vs v us Q I rx rv h
  obtain ⟨l, xs, y, rfl, rfl, hH, hz, q⟩ := h
  cases rx
  obtain ⟨u, rfl, ru⟩ := rv.one
  obtain ⟨z, its, n, r, hl, e⟩ := I.lstM hH
  refine call_meets F.slot_list_append ⟨_, e, rfl⟩ F.entry_list_append (F.args_list_append_2 _ _) (PySem.list_append l its.toArray n u (by rw [List.size_toArray]; omega)) ⟨e, ?_⟩
  refine ⟨.non, _, I.lset (its' := its ++ [u]) hH e (by simp) (r.append (.cons ru .nil)) ?_, rfl, q⟩
  rw [List.length_append, List.length_singleton]
  omega

/-! ### list + list, list += list, list * int -/

/-! ### del xs[i] -/
end

/-! ### xs[a:b] = ys -/
section
variable {prog : Program} {w : World} {A : Around} {E : Value → Shared → Prop} {s : Shared}
end

section
variable {X : Cx}
end
end L2

namespace Att
open PySem PySem.W PySem.Calls PyProof.Rows

/-! ### the script -/
theorem ints_of_wellAll {P : Params} {h : Heap} : ∀ (ns : List Int) (vs : List Value), WellAll P h vs (ns.map WData.int) → IntsAre vs ns := by
  intro ns
  induction ns with
  | nil =>
    intro vs w
    rw [List.map_nil] at w
    cases w
    exact .nil
  | cons n ns ih =>
    intro vs w
    rw [List.map_cons] at w
    cases w with
    | cons a b =>
      cases a
      exact .cons _ _ (ih _ b)

theorem script_of {l : OpenLaw} {n : Nat} (hn : l.most = some n) {P : Params} {h : Heap} {args : List WData} {vals : List Value}
    (hpre : l.row.toRowW.claim.pre args = true) (hwl : WellAll P h vals args) :
    ∃ a vs ns, vals = [Value.ref a] ∧ args = [WData.list (ns.map WData.int)] ∧ h.get? a = some { cls := .type "list", data := .seq vs.toArray } ∧ IntsAre vs ns ∧ ns.length ≤ n := by
  have hsh : WShape.hasAll [] args [.list .int] = true := (pre_splitW hpre).1
  have hc : l.pre.holds [] { args := args } = true := (pre_splitW hpre).2
  obtain ⟨d, r, rfl, h1, h2⟩ := hasAllW_cons hsh
  obtain rfl := hasAllW_nil h2
  obtain ⟨xs, rfl, h3⟩ := hasW_list h1
  obtain ⟨ns, rfl⟩ := items_int h3
  have hlen : ns.length ≤ n := by
    unfold OpenLaw.pre at hc
    have h4 : (WTm.not (.lt (.lit (.int (n : Int))) (.len (.arg 0)))).holds [] { args := [.list (ns.map .int)] } = true := by
      have h4 := (holds_andW hc).1
      rw [hn] at h4
      exact h4
    have h5 := condW_of h4 (w_not (w_lt w_lit (w_len_list (w_arg rfl))))
    rw [List.length_map] at h5
    refine Nat.le_of_not_lt fun q => ?_
    have q' : (n : Int) < ((ns.length : Nat) : Int) := by omega
    first
      | (rw [decide_eq_true q'] at h5; exact absurd h5 (by decide))
      | (simp at h5; omega)
  cases hwl with
  | cons w1 w2 =>
    cases w2
    cases w1 with
    | list ho hall => exact ⟨_, _, ns, rfl, rfl, ho, ints_of_wellAll ns _ hall, hlen⟩

theorem post_true (l : OpenLaw) (args : List WData) : l.row.toRowW.claim.post args (.bool true) args = true :=
  postW_of (r := l.row.toRowW) (X := (true == true))
    (show WShape.has [] (.bool true) .bool = true by first | rfl | decide | simp [WShape.has, WShape.arms, WShape.armsAll])
    (show (WTm.eq .res (.lit (.bool true))).value [] { args := args, res := some (.bool true), after := args } = some (.bool (true == true)) from w_eq_bool (w_res rfl) w_lit) rfl

/-! ### the attachment: holds_open's last premise (the goal 'hc' behind k_head) from a wpAny of the law's body -/

/-- the same from a codeAny of the CALL (for a layer whose function contracts speak of calls) -/
theorem attach_call {l : OpenLaw} {n : Nat} {q : Program} {loose : List Str} {XP : (Str → Option Value) → Heap → Prop} {YP : World → Heap → Prop} {d : DefRec}
    (hn : l.most = some n) (hdf : d.params.defaults = [])
    (call : ∀ (w : World) (s₀ s₁ : Shared) (mg mb : Str → Option Value) (fa : Addr) (o : Obj) (pm cd doc : Value) (a : Addr) (vs : List Value) (ns : List Int),
      Ground q loose [] XP w s₀ mg mb s₁.heap → YP w s₁.heap →
      s₁.heap.get? fa = some o → o.data = .func (docDef d.name d.params d.body d.scope pm cd doc) → s₁.heap.CodeRec cd d.name → mg d.name = some (.ref fa) →
      s₁.heap.get? a = some { cls := .type "list", data := .seq vs.toArray } → IntsAre vs ns → ns.length ≤ n → s₁.gens = #[] →
      codeAny (model l.prog w) callerA (.call (.ref fa) ⟨[.ref a], []⟩) (fun r s' => r = .ok (.ret (.bool true)) ∧ OldK s₁.heap s'.heap ∧ s'.os = s₁.os ∧ AllBare s'.gens) s₁) :
    WalkO q loose XP YP l.row.toRowW d [] (fun f vs => PySem.call f vs) := by
  intro w s₀ s₁ mg mb G Y fa o pm cd doc dV kV ho hd hcd hD hmg hg args vals as hpre hlay hrd hwl hlo
  obtain rfl : dV = .none := Dflts.none hD hdf
  obtain rfl : kV = .none := Dflts.noKw hD
  obtain ⟨a, vs, ns, rfl, rfl, hobj, hints, hlen⟩ := script_of hn hpre hwl
  refine enter_call (codeAny_mono (call w s₀ s₁ mg mb fa o pm cd doc a vs ns G Y ho (fd_plain hd) hcd hmg hobj hints hlen hg) fun r s' hq => ?_)
  obtain ⟨rfl, h2, h3, h4⟩ := hq
  exact ⟨.inl ⟨.bool true, .bool true, [], rfl, fun _ => rfl, .bool true, post_true l _, fun _ => ⟨List.Pairwise.nil, fun _ hm => (nomatch hm)⟩⟩, h2, h3, h4⟩

/-! ### rules over ANY heap (no ledger) from facts about the written part K: the library's own take a ledger (News) for what they write -/
section
variable {prog : Program} {w : World} {A : Around} {E : Value → Shared → Prop} {s : Shared} {K : Frag}

/-! the whole heap as the ledger: makes every rule that writes through a ledger a rule over any heap -/
def noObjs (h : Heap) : Heap := { h with objs := #[] }
theorem noObjs_get (h : Heap) (b : Addr) : (noObjs h).get? b = none := by
  cases e : (noObjs h).get? b with
  | none => rfl
  | some o => exact absurd (Heap.lt_size e) (Nat.not_lt_zero _)
theorem fr_all {h : Heap} {L : Addr} {m : Str → Option Value} (n : h.Ns L m) : Fr (noObjs h) L h m :=
  ⟨n, fun b o e => (by rw [noObjs_get] at e; cases e), Nat.zero_le _⟩

end
end Att

namespace L2
open PySem PySem.Spec PyProof.Rows

theorem vals_ints : ∀ {vs : List Value} {ns : List Int}, IntsAre vs ns → Vals (ns.map V.int) vs
  | _, _, .nil => .nil
  | _, _, .cons n t h => .cons ⟨t, rfl⟩ (vals_ints h)

/-- nothing is tracked but the script, known to the object (or it is an object of the module) -/
def Only (H : Hp) : Prop := ∀ b, H b = none ∨ ∃ o xs, H b = some (.frz o (.lst xs))

/-- THE HEAD: the law's promise, at the heap behind the top. F, the promise of the law's def, may use that base is part of the heap (so K.In base, base.Ns mainGlobals mg stand in Mod) -/
theorem law_call {P : Program} {w : World} {K : PySem.W.Frag} {mg mb : Str → Option Value} {CX : CXT} {k : Nat} {fa a : Addr} {fd : FuncData} {x : Str} {sp : Sp} {s₁ : Shared} {vs : List Value} {ns : List Int}
    (KX : K.In s₁.heap) (hns : s₁.heap.Ns mainGlobals mg) (hb : s₁.heap.Ns builtinsNs mb) (hbb : ∀ x : Str, x ≠ "__name__" → mb x = bootBuiltins x) (hlim : s₁.heap.NoLimit) (hg : s₁.gens = #[])
    (ha : s₁.heap.get? a = some { cls := .type "list", data := .seq vs.toArray }) (hi : IntsAre vs ns) (hl : ns.length ≤ sizeLine) (hr : Room k callerA)
    (F : ∀ base : Heap, K.In base → base.Ns mainGlobals mg → FnOk P w K mg base CX k fa fd [x] sp) (hbind : ∀ (s : Shared) (u : Value), BindsTo s fd ⟨[u], []⟩ [(x, u)])
    (hsp : ∀ H : Hp, Only H → SqL K H a (ns.map V.int) → sp [.ref a] H (fun v _ => v = .bl true) fun _ _ _ => False)
    (hCX : ∀ H e s', CX [] H s₁ (fun _ _ _ => False) e s' → False) :
    codeAny (model P w) callerA (.call (.ref fa) ⟨[.ref a], []⟩) (fun r s' => r = .ok (.ret (.bool true)) ∧ OldK s₁.heap s'.heap ∧ s'.os = s₁.os ∧ AllBare s'.gens) s₁ := by
  have rv := vals_ints hi
  have lenV := hi.length
  -- from an abstract heap in which nothing but the script may be tracked
  have core : ∀ H : Hp, Only H → SqL K H a (ns.map V.int) → HOk P w H s₁.heap → (∀ b, H b ≠ none → b = a) → (H a ≠ none → K.lookup a = none) →
      codeAny (model P w) callerA (.call (.ref fa) ⟨[.ref a], []⟩) (fun r s' => r = .ok (.ret (.bool true)) ∧ OldK s₁.heap s'.heap ∧ s'.os = s₁.os ∧ AllBare s'.gens) s₁ := by
    intro H hO hS hok hA hK
    have base_of : ∀ {b : Addr} {o : Obj}, s₁.heap.get? b = some o → H b = none → (hidT s₁.heap H).get? b = some o := fun e n => hidT_get e n
    have noA : ∀ {b : Addr} {o : Obj} {es : Array DictEntry} {ep : Nat}, s₁.heap.get? b = some o → o.data = .dict es ep → H b = none := fun {b o es ep} e d => by
      cases q : H b with
      | none => rfl
      | some u =>
        have e' : b = a := hA b (by rw [q]; simp)
        subst e'
        rw [ha] at e; cases e
        have d' : Data.seq vs.toArray _ = Data.dict es ep := d
        cases d'
    have nsK : ∀ {b : Addr} {m : Str → Option Value}, s₁.heap.Ns b m → (hidT s₁.heap H).Ns b m := fun {b m} ⟨o, es, ep, e, d, r⟩ => ⟨o, es, ep, base_of e (noA e d), d, r⟩
    have hKb : K.In (hidT s₁.heap H) := fun b o e => base_of (KX b o e) (by
      cases q : H b with
      | none => rfl
      | some u =>
        have e' : b = a := hA b (by rw [q]; simp)
        subst e'
        rw [hK (by rw [q]; simp)] at e; cases e)
    have hM : Mod K mg (hidT s₁.heap H) := ⟨hKb, nsK hns, ⟨mb, nsK hb, hbb⟩, let ⟨mc, h1, h2⟩ := hlim; ⟨mc, nsK h1, h2⟩⟩
    have e0 : Env0 P w K mg (hidT s₁.heap H) callerA [] s₁ H := ⟨rfl, hM, fun b o e => of_hidT e, Nat.le_of_eq (hidT_size _ _), trivial, fun b hb => absurd (show b ∈ ([] : List Addr) from hb) (by simp), hok, .of_eq hg⟩
    refine codeAny_mono ((F _ hKb (nsK hns)).run callerA [] s₁ H ⟨[.ref a], []⟩ [.ref a] [.ref a] _ _ hr e0 (hbind s₁ (.ref a)) (.cons rfl .nil) (hsp H hO hS)) fun r s' h => ?_
    cases r with
    | error e => exact (hCX H e s' h).elim
    | ok fl =>
      cases fl with
      | next => exact False.elim h
      | brk => exact False.elim h
      | cont => exact False.elim h
      | ret u =>
        obtain ⟨v, H', os, bare, un, hok', r', q⟩ := h
        have q' : v = .bl true := q
        subst q'
        obtain rfl : u = Value.bool true := r'
        refine ⟨rfl, OldK.of_keep fun b o e => ?_, os, bare⟩
        cases q : H b with
        | none => exact un.keep b o e q (by intro z; exact absurd (show b ∈ ([] : List Addr) from z) (by simp)) (by simp)
        | some u =>
          rcases hO b with z | ⟨ob, xs, z⟩
          · rw [q] at z; cases z
          · have z2 := un.frzs b ob _ z
            obtain ⟨e1, _⟩ := hok b _ z
            obtain ⟨e2, _⟩ := hok' b _ z2
            rw [e] at e1; cases e1
            exact e2
  cases hk : K.lookup a with
  | some o =>
    -- the script is one of the module's own objects
    have e := KX a o hk
    rw [ha] at e
    cases e
    refine core (fun _ => none) (fun _ => .inl rfl) (.inr ⟨_, vs.toArray, _, hk, rfl, rfl, rfl, by rw [List.size_toArray, lenV]; exact hl, by simpa using rv⟩) (fun b u z => by have z' : (none : Option HO) = some u := z; cases z') (fun b z => absurd rfl z) fun z => absurd rfl z
  | none =>
    refine core (fun b => if b = a then some (.frz { cls := .type "list", data := .seq vs.toArray } (.lst (ns.map V.int))) else none) (fun b => ?_) (.inl (.inr ⟨{ cls := .type "list", data := .seq vs.toArray }, if_pos rfl⟩)) (fun b u z => ?_) (fun b z => ?_) fun _ => hk
    · by_cases hb : b = a
      · exact .inr ⟨_, _, if_pos hb⟩
      · exact .inl (if_neg hb)
    · by_cases hb : b = a
      · have z' := (if_pos hb).symm.trans z
        cases z'
        subst hb
        exact ⟨ha, by rw [List.length_map]; exact hl, vs, _, rv, ha⟩
      · have z' := (if_neg hb).symm.trans z
        cases z'
    · by_cases hb : b = a
      · exact hb
      · exact absurd (if_neg hb) z
end L2

namespace L2
open PySem PySem.Spec PyProof.Rows

/-- the goal that k_head leaves (case hc), from the law's promise. F gives the function object fd (K's own) once, then the promise over every base -/
theorem walk_of {l : PySem.W.OpenLaw} {n k : Nat} {q : Program} {loose : List Str} {XP : (Str → Option Value) → Heap → Prop} {YP : World → Heap → Prop} {d : DefRec} {K : Params → PySem.W.Frag} {CX : World → CXT} {sp : World → Sp} {x : Str}
    (hn : l.most = some n) (hn2 : n ≤ sizeLine) (hdf : d.params.defaults = []) (hr : Room k callerA)
    (hY : ∀ (w : World) (h : Heap), YP w h → (K w.params).In h)
    (F : ∀ (w : World) (mg : Str → Option Value) (fa : Addr) (h : Heap), (K w.params).In h → h.Ns mainGlobals mg → mg d.name = some (.ref fa) →
      ∃ fd : FuncData, (∀ (s : Shared) (u : Value), BindsTo s fd ⟨[u], []⟩ [(x, u)]) ∧
        ∀ base : Heap, (K w.params).In base → base.Ns mainGlobals mg → FnOk l.prog w (K w.params) mg base (CX w) k fa fd [x] (sp w))
    (hsp : ∀ (w : World) (H : Hp) (a : Addr) (ns : List Int), ns.length ≤ n → Only H → SqL (K w.params) H a (ns.map V.int) → sp w [.ref a] H (fun v _ => v = .bl true) fun _ _ _ => False)
    (hCX : ∀ (w : World) (H : Hp) (s : Shared) (e : Value) (s' : Shared), CX w [] H s (fun _ _ _ => False) e s' → False) :
    PySem.W.WalkO q loose XP YP l.row.toRowW d [] (fun f vs => PySem.call f vs) := by
  refine Att.attach_call hn hdf fun w s₀ s₁ mg mb fa o pm cd doc a vs ns G Y ho hd hcd hmg hobj hints hlen hg => ?_
  have KX := hY w _ Y
  obtain ⟨fd, hb, hF⟩ := F w mg fa _ KX G.T.g hmg
  exact law_call KX G.T.g G.T.b G.T.builtins G.T.nolimit hg hobj hints (Nat.le_trans hlen hn2) hr hF hb (fun H hO hS => hsp w H a ns hlen hO hS) fun H e s' => hCX w H s₁ e s'
end L2

/- THE LAST THEOREM (shape; LID, My.* are yours):
   My.Adr: a structure of the addresses that your layer names (classes, functions); My.Txt K t: a structure (Prop) of the equations over K;
   My.txt_mk : {K} {implicit addresses ..} (e1 : nsIn K mainGlobals "law" = some (some (.ref f))) (e2 : K.lookup f = some ⟨oc, od, .func (fnOf "law" "law" params body scope dV kV doc pm an cdv ct), sl⟩) (e3 : codeIn K cdv "law" = true) .. : ∃ t, My.Txt K t

set_option maxRecDepth 100000 in
set_option maxHeartbeats 0 in
theorem PySem.Challenge.cw_LID_holds : PySem.Challenge.rw_LID.Holds := by
  w_on; o_law; k_head; (case hw => w_witness2)
  k_fill
  refine L2.walk_of (l := PySem.Challenge.rw_LID) (n := 63) (k := 40) (x := "script") (CX := fun w => ..) (sp := fun _ => My.sp_law) rfl (by decide) rfl ⟨rfl, by decide, by decide⟩ (fun w h Y => PySem.W.kIn_of Y) ?F ?S ?C
  case F =>
    intro w mg fa h KX G hmg
    have T : ∃ t, My.Txt (L2.KOf KX) t := by
      dsimp only [L2.KOf]                          -- K must stand as «<heap const> w.params» for k_is
      refine' My.txt_mk ?e1 ?e2 ?e3 ..
      (case e1 => PySem.W.k_is)                    -- in the order: a name -> its address -> its object -> its parts
      (case e2 => PySem.W.k_is)
      ..
    obtain ⟨t, T⟩ := T
    have e0 := hmg.symm.trans (PySem.W.mg_of KX G T.law)
    cases e0                                       -- fa is the law's own address
    exact ⟨_, fun s u => .of_eq rfl, fun base kb nb => My.law_fn T kb nb⟩     -- if «.of_eq rfl» comes too early: refine' ⟨_, ?b, fun base kb nb => My.law_fn T kb nb⟩; exact fun s u => .of_eq rfl
  case S => exact fun w H a ns hl hO hS => ..
  case C => exact ..
(the tactic k_is has no namespace: write k_is) -/

/-! SHORT WORDS over the layer: a def of the text, its body, what a loop and a test want. -/
namespace L2
open PySem PySem.Spec PyProof.Rows

/-! ### the text by places -/
def defArgs (s : Stmt) : Arguments := match s with
  | .FunctionDef _ a _ _ _ _ _ _ _ _ => a
  | _ => { posonlyargs := [], args := [], vararg := none, kwonlyargs := [], kw_defaults := [], kwarg := none, defaults := [] }
def defBody (s : Stmt) : List Stmt := match s with
  | .FunctionDef _ _ b _ _ _ _ _ _ _ => b
  | _ => []
def defScope (s : Stmt) : Scope := match s with
  | .FunctionDef _ _ _ _ _ _ sc _ _ _ => sc
  | _ => { kind := .function, names := [], isGenerator := false, isCoroutine := false }

/-! ### no exception leaves a def -/
abbrev CX0 : CXT := fun _ _ _ _ _ _ => False
abbrev E0 : XK := fun _ _ _ => False
theorem pass0 {X : Cx} : Passes CX0 X E0 := fun _ _ _ _ _ _ _ h => h.elim

/-! ### a def (or method) of the text as it stands behind the top -/
structure Fun (K : PySem.W.Frag) (x qual : Str) (st : Stmt) (f : Addr) (fd : FuncData) : Prop where
  ex : ∃ (oc : Value) (od : Option Addr) (kV doc pm : Value) (an : Option Addr) (cdv ct : Value) (osl : Array (Option Value)),
    fd = PySem.W.fnOf x qual (defArgs st) (defBody st) (defScope st) .none kV doc pm an cdv ct ∧ K.lookup f = some ⟨oc, od, .func fd, osl⟩ ∧ PySem.W.codeIn K cdv qual = true
  kp : PySem.W.keepIn K (.ref f) = true
section
variable {P : Program} {w : World} {K : PySem.W.Frag} {mg : Str → Option Value} {base : Heap}
/-- THE RULE for a def: its body as a term of rules, and the reading of that term -/
theorem Fun.ok {x qual : Str} {st : Stmt} {f : Addr} {fd : FuncData} {N ps : List Str} {k : Nat} {sp : Sp} (F : Fun K x qual st f fd) (S : FnScope N ps (defScope st)) (len : ∀ vs H Q E, sp vs H Q E → vs.length = ps.length)
    (hbody : ∀ (cdv : Value) (A : Around) (outer : List Env) (s : Shared) (H : Hp) (vs : List V) (Q : VK) (E : XK), Room k (A.deeper (envOfC qual (defScope st) s.heap.objs.size f cdv)) → sp vs H Q E →
      ∃ t, PSs (cxOf CX0 P w K mg base N qual (defScope st) f cdv A outer s H E).nox (defBody st) t ∧ t { nx := fun _ H' => Q .non H', rt := Q } (start N vs) H) : FnOk P w K mg base CX0 (k + 1) f fd ps sp := by
  obtain ⟨oc, od, kV, doc, pm, an, cdv, ct, osl, rfl, lk, hcd⟩ := F.ex
  refine fn_of lk hcd S len fun A outer s H vs Q E hr hsp => ?_
  obtain ⟨t, h, q⟩ := hbody cdv A outer s H vs Q E hr hsp
  exact ⟨t, h.nox, q⟩
/-- how its arguments bind (no defaults): h is «fun _ _ _ _ _ _ us hl => match us, hl with | [_, _], _ => rfl», one _ a parameter -/
theorem Fun.binds {x qual : Str} {st : Stmt} {f : Addr} {fd : FuncData} {ps : List Str} (F : Fun K x qual st f fd)
    (h : ∀ (kV doc pm : Value) (an : Option Addr) (cdv ct : Value) (us : List Value), us.length = ps.length → bindArgs (PySem.W.fnOf x qual (defArgs st) (defBody st) (defScope st) .none kV doc pm an cdv ct) ⟨us, []⟩ = pure (ps.zip us)) : Binds K fd ps [] := by
  obtain ⟨oc, od, kV, doc, pm, an, cdv, ct, osl, rfl, lk, hcd⟩ := F.ex
  exact .all (h kV doc pm an cdv ct)
theorem fun_mk {x qual : Str} {st : Stmt} {f : Addr} {oc : Value} {od an : Option Addr} {osl : Array (Option Value)} {kV doc pm cdv ct : Value} (l : K.lookup f = some ⟨oc, od, .func (PySem.W.fnOf x qual (defArgs st) (defBody st) (defScope st) .none kV doc pm an cdv ct), osl⟩)
    (c : PySem.W.codeIn K cdv qual = true) (k : PySem.W.keepIn K (.ref f) = true) : Fun K x qual st f (PySem.W.fnOf x qual (defArgs st) (defBody st) (defScope st) .none kV doc pm an cdv ct) := ⟨⟨oc, od, kV, doc, pm, an, cdv, ct, osl, rfl, l, c⟩, k⟩
end
theorem hu_of {A : Around} {k : Nat} (hr : Room k A) : A.units + 1 < cLine := Nat.lt_of_le_of_lt (Nat.add_le_add_left (by decide : 1 ≤ 64) _) hr.units

/-! ### expressions in short: the name that stands in the i-th slot -/
section
variable {X : Cx}
theorem pv (i : Nat) {x : Str} {pos : Pos} (hN : X.N[i]? = some x := by rfl) (hv : Vis X.env.scope x := by first | exact Or.inl rfl | exact Or.inr (Or.inl rfl) | exact Or.inr (Or.inr rfl)) (hd : (x == ("__debug__" : Str)) = false := by decide)
    (hcd : (x == ("__classdict__" : Str)) = false := by decide) : PE X (.Name x pos) (tVar i) := pe_var hN hv hd hcd
end

/-! ### tests -/
theorem iteF {A B : Prop} (h : B) : if false = true then A else B := by
  rw [if_neg Bool.false_ne_true]
  exact h
theorem iteT {A B : Prop} (h : A) : if true = true then A else B := by
  rw [if_pos rfl]
  exact h
theorem ite2 {c A B : Prop} [Decidable c] (h1 : c → A) (h2 : ¬ c → B) : if c then A else B := by
  by_cases h : c
  · rw [if_pos h]
    exact h1 h
  · rw [if_neg h]
    exact h2 h

/-! ### heaps -/
/-- all that was tracked is as it was -/
def Same (H H' : Hp) : Prop := ∀ b o, H b = some o → H' b = some o
theorem Same.refl (H : Hp) : Same H H := fun _ _ h => h
theorem Same.trans {H H1 H2 : Hp} (a : Same H H1) (b : Same H1 H2) : Same H H2 := fun c o h => b c o (a c o h)
theorem Same.seq {K : PySem.W.Frag} {H H' : Hp} {a : Addr} {xs : List V} (e : Same H H') (h : SqL K H a xs) : SqL K H' a xs := by
  rcases h with (h | ⟨o, h⟩) | h
  · exact .inl (.inl (e _ _ h))
  · exact .inl (.inr ⟨o, e _ _ h⟩)
  · exact .inr h

/-! ### a dict's pairs: keys that differ -/
section
variable {κ : Type} [DecidableEq κ]
end
end L2

set_option maxHeartbeats 4000000
namespace L2
open PySem PySem.Spec PyProof.Rows

/-! ### list comprehensions -/
/-- one turn of a list comprehension, whatever its target -/
theorem lc_loop {prog : Program} {w : World} {A : Around} {R : Result → Shared → Prop} {s : Shared} {elt target iter : Expr} {ifs : List Expr} {scope : Scope} {pos : Pos} {it acc : Value} {env : Env} (I : Nat → Shared → Prop)
    (turn : ∀ n s, I n s → wpAny (model prog w) A (pyNext it) (fun r s₁ => match r with
      | none => R (.ok .next) s₁
      | some v => wpAny (model prog w) A (letOwnedTupleGo target it v) (fun _ s₁' => wpAny (model prog w) A (assign target env v) (fun _ s₂ =>
          wpAny (model prog w) A (forIn ifs true fun c r => if r = true then do let ok ← isTrue c env (eval c env); pure (ForInStep.yield ok) else pure (ForInStep.yield r)) (fun ok s₃ =>
            if ok = true then wpAny (model prog w) A (eval elt env) (fun x s₄ =>
              wpAny (model prog w) A (call (.builtin "list.append") [acc, x]) (fun _ s₅ => ∃ m, m < n ∧ I m s₅) (fun _ _ => False) s₄) (fun _ _ => False) s₃
            else ∃ m, m < n ∧ I m s₃) (fun _ _ => False) s₂) (fun _ _ => False) s₁') (fun _ _ => False) s₁) (fun _ _ => False) s)
    (n : Nat) (h : I n s) :
    codeAny (model prog w) A (.compLoop (.ListComp elt [⟨target, iter, ifs, 0⟩] scope pos) 0 it acc env) R s := by
  refine codeAny_loop rfl I (fun n s hI => ?_) n h
  show wpAny _ A ((compTurn (.ListComp elt [⟨target, iter, ifs, 0⟩] scope pos) 0 it acc env).onRaise (fun x => do noteFrame x env; theTreesLotGoes x)) _ _ s
  refine wpAny_noted ?_
  rw [compTurn_list]
  have no : ∀ {E : Value → Shared → Prop} (x : Value) (s : Shared), False → E x s := fun _ _ z => z.elim
  refine wpAny_bind (wpAny_standAt (wpAny_bind (wpAny_mono (turn n s hI) (fun r s₁ h₁ => ?_) no)))
  cases r with
  | none => exact wpAny_pure h₁
  | some v =>
    refine wpAny_bind (wpAny_mono h₁ (fun _ s₁' h₁' => ?_) no)
    refine wpAny_bind (wpAny_mono h₁' (fun _ s₂ h₂ => wpAny_bind (wpAny_mono h₂ (fun ok s₃ h₃ => ?_) no)) no)
    cases ok with
    | false => exact wpAny_pure ⟨rfl, h₃⟩
    | true =>
      exact wpAny_bind (wpAny_bind (wpAny_mono h₃ (fun x s₄ h₄ => wpAny_bind (wpAny_mono h₄ (fun _ s₅ h₅ => wpAny_pure (wpAny_pure ⟨rfl, h₅⟩)) no)) no))

/-- the cells of a comprehension's free names -/
def capCells (env : Env) : List (Str × NameKind) → List (Str × Addr) → List (Str × Addr)
  | [], acc => acc
  | (n, k) :: r, acc => if k = .free then capCells env r (match env.cells.lookup n with | some c => (n, c) :: acc | none => acc) else capCells env r acc
theorem closure_cap {env : Env} {scope : Scope} (h : ∀ x ∈ scope.names, x.2 = .free → ∃ c, env.cells.lookup x.1 = some c) : closureFor scope env = pure (capCells env scope.names []) := by
  have all : ∀ (l : List (Str × NameKind)) (acc : List (Str × Addr)), (∀ x ∈ l, x.2 = NameKind.free → ∃ c, env.cells.lookup x.1 = some c) →
      (forIn l acc fun x cs => (do
        if x.2 == NameKind.free then
          let a ← cellOf env x.1
          pure (ForInStep.yield ((x.1, a) :: cs))
        else pure (ForInStep.yield cs) : Sem _)) = pure (capCells env l acc) := by
    intro l
    induction l with
    | nil => intro acc _; rfl
    | cons x r ih =>
      intro acc hl
      obtain ⟨n, k⟩ := x
      have hr := fun y hy => hl y (List.mem_cons_of_mem _ hy)
      rw [List.forIn_cons]
      by_cases hk : k = .free
      · subst hk
        obtain ⟨c, hc⟩ := hl (n, .free) List.mem_cons_self rfl
        simp only [beq_self_eq_true, if_true, capCells]
        have e : cellOf env n = pure c := by unfold cellOf; rw [show env.cells.lookup n = some c from hc]
        rw [e]
        simp only [pure_bind]
        rw [ih _ hr, show env.cells.lookup n = some c from hc]
      · have hb : (k == NameKind.free) = false := by simpa using hk
        simp only [hb, Bool.false_eq_true, if_false, capCells, if_neg hk, pure_bind]
        exact ih _ hr
  unfold closureFor
  exact (congrArg (fun t : Sem (List (Str × Addr)) => t >>= pure) (all scope.names [] h)).trans (by simp)
theorem capCells_sub {env : Env} : ∀ (l : List (Str × NameKind)) (acc : List (Str × Addr)), (∀ n c, acc.lookup n = some c → env.cells.lookup n = some c) → ∀ n c, (capCells env l acc).lookup n = some c → env.cells.lookup n = some c
  | [], acc, h, n, c, e => h n c e
  | (m, k) :: r, acc, h, n, c, e => by
    unfold capCells at e
    split at e
    · refine capCells_sub r _ ?_ n c e
      intro n' c' e'
      split at e'
      · rename_i c0 hc0
        rw [List.lookup_cons] at e'
        split at e'
        · rename_i hb
          have : n' = m := by simpa using hb
          subst this
          cases e'
          exact hc0
        · exact h n' c' e'
      · exact h n' c' e'
    · exact capCells_sub r _ h n c e
theorem capCells_acc {env : Env} {n : Str} : ∀ (l : List (Str × NameKind)) (acc : List (Str × Addr)), (∃ c, acc.lookup n = some c) → ∃ c, (capCells env l acc).lookup n = some c
  | [], acc, h => h
  | (m, k) :: r, acc, h => by
    unfold capCells
    split
    · refine capCells_acc r _ ?_
      obtain ⟨c, hc⟩ := h
      split
      · rw [List.lookup_cons]
        split
        · exact ⟨_, rfl⟩
        · exact ⟨c, hc⟩
      · exact ⟨c, hc⟩
    · exact capCells_acc r _ h
theorem capCells_has {env : Env} {n : Str} (hc : ∃ c, env.cells.lookup n = some c) : ∀ (l : List (Str × NameKind)) (acc : List (Str × Addr)), (n, NameKind.free) ∈ l → ∃ c, (capCells env l acc).lookup n = some c
  | [], _, h => by cases h
  | (m, k) :: r, acc, h => by
    obtain ⟨c, hc⟩ := hc
    unfold capCells
    rcases List.mem_cons.mp h with e | h
    · cases e
      rw [if_pos rfl, hc]
      exact capCells_acc r _ ⟨c, by simp⟩
    · split
      · exact capCells_has ⟨c, hc⟩ r _ h
      · exact capCells_has ⟨c, hc⟩ r _ h

/-- the block of a comprehension: its own frame, the callers' and this one may change their slots -/
def Cx.comp (X : Cx) (N : List Str) (scope : Scope) (fp : List Addr) (s : Shared) (H : Hp) : Cx where
  prog := X.prog
  w := X.w
  K := X.K
  mg := X.mg
  base := X.base
  A := X.A
  N := N
  s₀ := s
  H₀ := H
  env := compEnvC scope (capCells X.env scope.names []) (s.heap.objs.size + 1) X.env
  outer := X.stack
  stack := X.stack
  ex := fp
  calm := X.calm
  fn := fun _ => false
  pn := []
  xe := fun _ _ => False
/-- the frame's values in the block: k own names, then the captured ones, each with its place outside -/
def capSt (k : Nat) (ix : List Nat) (σ : St) : St := List.replicate k none ++ ix.map fun j => (σ[j]?).join
/-- what of a comprehension's scope is asked (all decided over written scopes): own: its own names; cap: the captured ones, with their places outside -/
structure LcScope (N : List Str) (sc : Scope) (scope : Scope) (own : List Str) (ix : List Nat) : Prop where
  kind : scope.kind = .function
  nocell : ∀ y ∈ scope.names, y.2 ≠ .cell
  names : ∀ y ∈ scope.names, y.2 = .local → scope.names.lookup y.1 = some .local
  free : ∀ y ∈ scope.names, y.2 = .free → sc.names.lookup y.1 = some .cell ∨ sc.names.lookup y.1 = some .free
  cap : ∀ j ∈ ix, ∀ x, N[j]? = some x → (x, NameKind.free) ∈ scope.names ∧ (scope.names.lookup x = some .free)
  inN : ∀ j ∈ ix, j < N.length
abbrev lcN (N own : List Str) (ix : List Nat) : List Str := own ++ ix.filterMap fun j => N[j]?
theorem lcN_len {N own : List Str} {ix : List Nat} (h : ∀ j ∈ ix, j < N.length) : (lcN N own ix).length = own.length + ix.length := by
  unfold lcN
  rw [List.length_append]
  congr 1
  induction ix with
  | nil => rfl
  | cons j r ih =>
    have hj : j < N.length := h j List.mem_cons_self
    rw [List.filterMap_cons, List.getElem?_eq_getElem hj]
    show _ + 1 = _ + 1
    rw [ih fun i hi => h i (List.mem_cons_of_mem _ hi)]
theorem filterMap_get {N : List Str} : ∀ {ix : List Nat}, (∀ j ∈ ix, j < N.length) → ∀ {i : Nat} {x : Str}, (ix.filterMap fun j => N[j]?)[i]? = some x → ∃ j, ix[i]? = some j ∧ N[j]? = some x
  | [], _, i, x, e => by simp at e
  | j :: r, h, i, x, e => by
    have hj : j < N.length := h j List.mem_cons_self
    rw [List.filterMap_cons, List.getElem?_eq_getElem hj] at e
    cases i with
    | zero =>
      refine ⟨j, rfl, ?_⟩
      rw [List.getElem?_eq_getElem hj]
      exact e
    | succ i =>
      obtain ⟨j', e1, e2⟩ := filterMap_get (fun i hi => h i (List.mem_cons_of_mem _ hi)) (i := i) (x := x) (by simpa using e)
      exact ⟨j', by simpa using e1, e2⟩
theorem capSt_get {k : Nat} {ix : List Nat} {σ : St} {i : Nat} {v : V} (h : (capSt k ix σ)[i]? = some (some v)) : ∃ i' j, i = k + i' ∧ ix[i']? = some j ∧ σ[j]? = some (some v) := by
  unfold capSt at h
  by_cases hi : i < k
  · rw [List.getElem?_append_left (by simpa using hi), List.getElem?_replicate, if_pos hi] at h
    cases h
  · rw [List.getElem?_append_right (by simpa using hi), List.length_replicate, List.getElem?_map] at h
    refine ⟨i - k, ?_⟩
    cases e : ix[i - k]? with
    | none => rw [e] at h; cases h
    | some j =>
      rw [e] at h
      refine ⟨j, by omega, rfl, ?_⟩
      have h' : (σ[j]?).join = some v := by simpa using h
      cases q : σ[j]? with
      | none => rw [q] at h'; cases h'
      | some o =>
        rw [q] at h'
        exact congrArg some h'
theorem lookup_relabel_free {env : Env} {x : Str} : ∀ {names : List (Str × NameKind)}, names.lookup x = some .free →
    (names.map fun (n, k) => if (k == NameKind.free && env.scope.kind == .function && env.kindOf n == some .cell) then (n, NameKind.cell) else (n, k)).lookup x = some .cell ∨
    (names.map fun (n, k) => if (k == NameKind.free && env.scope.kind == .function && env.kindOf n == some .cell) then (n, NameKind.cell) else (n, k)).lookup x = some .free
  | [], h => by simp at h
  | (n, k) :: r, h => by
    have ih := @lookup_relabel_free env x r
    rw [List.map_cons]
    show List.lookup x ((if (k == NameKind.free && env.scope.kind == .function && env.kindOf n == some .cell) = true then (n, NameKind.cell) else (n, k)) :: _) = _ ∨ List.lookup x ((if (k == NameKind.free && env.scope.kind == .function && env.kindOf n == some .cell) = true then (n, NameKind.cell) else (n, k)) :: _) = _
    cases hx : x == n with
    | true =>
      simp only [List.lookup_cons, hx] at h
      cases h
      by_cases hc : (NameKind.free == NameKind.free && env.scope.kind == .function && env.kindOf n == some .cell) = true
      · rw [if_pos hc]; left; simp only [List.lookup_cons, hx]
      · rw [if_neg hc]; right; simp only [List.lookup_cons, hx]
    | false =>
      simp only [List.lookup_cons, hx] at h
      by_cases hc : (k == NameKind.free && env.scope.kind == .function && env.kindOf n == some .cell) = true
      · rw [if_pos hc]; simp only [List.lookup_cons, hx]; exact ih h
      · rw [if_neg hc]; simp only [List.lookup_cons, hx]; exact ih h
theorem relabel_kind_of {env : Env} {x : Str} {kd : NameKind} : ∀ {names : List (Str × NameKind)},
    (names.map fun (n, k) => if (k == NameKind.free && env.scope.kind == .function && env.kindOf n == some .cell) then (n, NameKind.cell) else (n, k)).lookup x = some kd → (kd = .cell ∨ kd = .free) → (∀ y ∈ names, y.2 ≠ .cell) →
    (x, NameKind.free) ∈ names
  | [], h, _, _ => by simp at h
  | (n, k) :: r, h, hk, hc => by
    have ih := @relabel_kind_of env x kd r
    rw [List.map_cons] at h
    have hcr : ∀ y ∈ r, y.2 ≠ .cell := fun y hy => hc y (List.mem_cons_of_mem _ hy)
    by_cases hf : k = .free
    · subst hf
      cases hx : x == n with
      | true =>
        have : x = n := by simpa using hx
        subst this
        exact List.mem_cons_self
      | false =>
        refine List.mem_cons_of_mem _ (ih ?_ hk hcr)
        by_cases hcc : (NameKind.free == NameKind.free && env.scope.kind == .function && env.kindOf n == some .cell) = true
        · have h2 : List.lookup x ((if (NameKind.free == NameKind.free && env.scope.kind == .function && env.kindOf n == some .cell) = true then (n, NameKind.cell) else (n, NameKind.free)) :: r.map fun (n, k) => if (k == NameKind.free && env.scope.kind == .function && env.kindOf n == some .cell) then (n, NameKind.cell) else (n, k)) = some kd := h
          rw [if_pos hcc, List.lookup_cons, hx] at h2
          exact h2
        · have h2 : List.lookup x ((if (NameKind.free == NameKind.free && env.scope.kind == .function && env.kindOf n == some .cell) = true then (n, NameKind.cell) else (n, NameKind.free)) :: r.map fun (n, k) => if (k == NameKind.free && env.scope.kind == .function && env.kindOf n == some .cell) then (n, NameKind.cell) else (n, k)) = some kd := h
          rw [if_neg hcc, List.lookup_cons, hx] at h2
          exact h2
    · have hb : (k == NameKind.free) = false := by simpa using hf
      have h2 : List.lookup x ((if (k == NameKind.free && env.scope.kind == .function && env.kindOf n == some .cell) = true then (n, NameKind.cell) else (n, k)) :: r.map fun (n, k) => if (k == NameKind.free && env.scope.kind == .function && env.kindOf n == some .cell) then (n, NameKind.cell) else (n, k)) = some kd := h
      rw [hb, Bool.false_and, Bool.false_and, if_neg Bool.false_ne_true, List.lookup_cons] at h2
      cases hx : x == n with
      | true =>
        rw [hx] at h2
        cases h2
        rcases hk with z | z
        · exact absurd z (hc (n, _) List.mem_cons_self)
        · exact absurd z hf
      | false =>
        rw [hx] at h2
        exact List.mem_cons_of_mem _ (ih h2 hk hcr)
end L2

set_option maxHeartbeats 4000000
namespace L2
open PySem PySem.Spec PyProof.Rows

theorem nlt {a b : Nat} (h : a < b) : a ≠ b := Nat.ne_of_lt h
theorem ngt {a b : Nat} (h : a < b) : b ≠ a := Nat.ne_of_gt h
theorem nlt1 {a b : Nat} (h : a < b) : a ≠ b + 1 := Nat.ne_of_lt (Nat.lt_succ_of_lt h)
theorem ngt1 {a b : Nat} (h : a < b) : b + 1 ≠ a := Nat.ne_of_gt (Nat.lt_succ_of_lt h)
theorem nss (a : Nat) : a ≠ a + 1 := Nat.ne_of_lt (Nat.lt_succ_self a)
theorem nss' (a : Nat) : a + 1 ≠ a := Nat.ne_of_gt (Nat.lt_succ_self a)
section
variable {X : Cx} {pins : List (Addr × Obj)} {σ : St} {H : Hp} {s : Shared} {scope : Scope} {own : List Str} {ix : List Nat} {fp : List Addr}

theorem Inv.compOk {N : List Str} (I : Inv X pins σ H s) (L : LcScope X.N X.env.scope scope own ix) (hf : ∀ b ∈ fp, FpOk X pins H b) (hlt : ∀ b ∈ fp, b < s.heap.objs.size) : (X.comp N scope fp s H).Ok where
  mod := I.ok.mod
  kind := L.kind
  glob := I.ok.glob
  blt := I.ok.blt
  above := Nat.le_succ _
  inj := fun x y c h1 h2 => I.ok.inj x y c (capCells_sub _ _ (fun _ _ z => by simp at z) x c h1) (capCells_sub _ _ (fun _ _ z => by simp at z) y c h2)
  has := fun x hx => by
    have hm : (x, NameKind.free) ∈ scope.names := by
      rcases hx with hx | hx
      · exact relabel_kind_of (env := X.env) (x := x) (names := scope.names) hx (.inl rfl) L.nocell
      · exact relabel_kind_of (env := X.env) (x := x) (names := scope.names) hx (.inr rfl) L.nocell
    exact capCells_has (I.ok.has x (L.free _ hm rfl)) _ _ hm
  cab := fun x c h => by cases h
  hd := I.ok.hd
  frames := I.ok.frames
  stk := .inl rfl
  exf := fun b hb => ⟨nlt1 (hlt b hb), fun x c e => (hf b hb).2.2.2.2.1 x c (capCells_sub _ _ (fun _ _ z => by simp at z) x c e)⟩
  bs := I.bs
  bsz := Nat.le_trans I.ok.bsz I.sz
  noex := fun b o e hb => by
    rcases (hf b hb).2.2.2.1 with z | z
    · exact I.ok.noex b o e z
    · exact absurd (Nat.lt_of_lt_of_le (Heap.lt_size e) (Nat.le_trans I.ok.bsz z)) (Nat.lt_irrefl _)
  exfs := fun b hb z => by
    rcases List.mem_cons.mp (I.stkSub b z) with e | e
    · exact (hf b hb).2.1 e
    · exact (hf b hb).2.2.1 e
  funs := I.stack
  frf := I.stkFree

theorem Inv.compStart {h1 : Heap} {tk : Nat} (I : Inv X pins σ H s) (L : LcScope X.N X.env.scope scope own ix) (hf : ∀ b ∈ fp, FpOk X pins H b) (hlt : ∀ b ∈ fp, b < s.heap.objs.size)
    (k : ∀ b o, s.heap.get? b = some o → h1.get? b = some o) {m : Str → Option Value} (hn : h1.Ns (s.heap.objs.size + 1) m) :
    Inv (X.comp (lcN X.N own ix) scope fp s H) [] (capSt own.length ix σ) H { s with heap := h1, toks := tk } := by
  have sub := fun x c => capCells_sub (env := X.env) scope.names [] (fun _ _ z => by simp at z) x c
  refine ⟨I.compOk L hf hlt, rfl, I.bare, Un.kept k, ⟨m, hn, fun i x v e1 e2 e3 => ?_⟩, fun x c e => ?_, I.hok.fresh (Nat.le_succ _), fun x c e => I.freeC x c (sub x c e), fun p hp => absurd (show p ∈ ([] : List (Addr × Obj)) from hp) (by simp), I.hok.kept k, ?_⟩
  · obtain ⟨i', j, rfl, hj, hv⟩ := capSt_get e2
    have e1' : (lcN X.N own ix)[own.length + i']? = some x := e1
    unfold lcN at e1'
    rw [List.getElem?_append_right (Nat.le_add_right _ _), Nat.add_sub_cancel_left] at e1'
    obtain ⟨j', hj', hN⟩ := filterMap_get L.inN e1'
    rw [hj] at hj'
    cases hj'
    have hjm : j ∈ ix := List.mem_of_getElem? hj
    obtain ⟨hmem, hlk⟩ := L.cap j hjm x hN
    have hkind := L.free _ hmem rfl
    obtain ⟨m0, hn0, hl0⟩ := I.loc
    obtain ⟨u, r, l⟩ := hl0 j x v hN hv (by rcases hkind with z | z; exact .inr (.inl z); exact .inr (.inr z))
    refine ⟨u, r, .inr ⟨?_, ?_⟩⟩
    · exact lookup_relabel_free (env := X.env) hlk
    · rcases l with ⟨kl, _⟩ | ⟨_, c, hc, hcell⟩
      · have kl' : X.env.scope.names.lookup x = some .local := kl
        rcases hkind with z | z
        · rw [kl'] at z; cases z
        · rw [kl'] at z; cases z
      · obtain ⟨c', hc'⟩ := capCells_has (env := X.env) ⟨c, hc⟩ scope.names [] hmem
        have : c' = c := by
          have q := sub x c' hc'
          rw [hc] at q
          exact (Option.some.inj q).symm
        subst this
        obtain ⟨o, ho, hd⟩ := hcell
        exact ⟨c', hc', o, k _ _ ho, hd⟩
  · obtain ⟨v, o, ho, hd⟩ := I.cell x c (sub x c e)
    exact ⟨v, o, k _ _ ho, hd⟩
  · show (capSt own.length ix σ).length = (lcN X.N own ix).length
    rw [lcN_len L.inN]
    unfold capSt
    rw [List.length_append, List.length_replicate, List.length_map]

/-- the target of a comprehension sets its own names alone -/
def GW (k : Nat) (g : TG) : Prop := ∀ x (σ : St) H (Q : St → Hp → Prop), g x σ H Q → g x σ H fun σ2 H2 => Q σ2 H2 ∧ σ2.length = σ.length ∧ ∀ j, k ≤ j → σ2[j]? = σ[j]?
theorem gw_name {k i : Nat} (h : i < k) : GW k (gName i) := fun x σ H Q q => ⟨q, by simp, fun j hj => by rw [List.getElem?_set_ne (by omega)]⟩
def GWs (k : Nat) (g : TGs) : Prop := ∀ x (σ : St) H (Q : St → Hp → Prop), g x σ H Q → g x σ H fun σ2 H2 => Q σ2 H2 ∧ σ2.length = σ.length ∧ ∀ j, k ≤ j → σ2[j]? = σ[j]?
def GM (g : TG) : Prop := ∀ x (σ : St) H (Q Q' : St → Hp → Prop), (∀ s h, Q s h → Q' s h) → g x σ H Q → g x σ H Q'
theorem gm_name {i : Nat} : GM (gName i) := fun _ _ _ _ _ h q => h _ _ q
theorem gws_nil {k : Nat} : GWs k gNil := fun x σ H Q q => ⟨q.1, q.2, rfl, fun _ _ => rfl⟩
theorem gws_cons {k : Nat} {t : TG} {u : TGs} (ht : GW k t) (hu : GWs k u) (mt : GM t) (mu : ∀ x (σ : St) H (Q Q' : St → Hp → Prop), (∀ s h, Q s h → Q' s h) → u x σ H Q → u x σ H Q') : GWs k (gCons t u) := fun x σ H Q q => by
  obtain ⟨v, r, e, q⟩ := q
  refine ⟨v, r, e, mt _ _ _ _ _ ?_ (ht _ _ _ _ q)⟩
  rintro σ1 H1 ⟨q1, l1, j1⟩
  refine mu _ _ _ _ _ ?_ (hu _ _ _ _ q1)
  rintro σ2 H2 ⟨q2, l2, j2⟩
  exact ⟨q2, l2.trans l1, fun j hj => (j2 j hj).trans (j1 j hj)⟩
theorem gms_nil : ∀ x (σ : St) H (Q Q' : St → Hp → Prop), (∀ s h, Q s h → Q' s h) → gNil x σ H Q → gNil x σ H Q' := fun _ _ _ _ _ h q => ⟨q.1, h _ _ q.2⟩
theorem gms_cons {t : TG} {u : TGs} (mt : GM t) (mu : ∀ x (σ : St) H (Q Q' : St → Hp → Prop), (∀ s h, Q s h → Q' s h) → u x σ H Q → u x σ H Q') : ∀ x (σ : St) H (Q Q' : St → Hp → Prop), (∀ s h, Q s h → Q' s h) → gCons t u x σ H Q → gCons t u x σ H Q' :=
  fun _ _ _ _ _ h ⟨v, r, e, q⟩ => ⟨v, r, e, mt _ _ _ _ _ (fun _ _ q1 => mu _ _ _ _ _ h q1) q⟩
theorem gw_tup {k : Nat} {K : PySem.W.Frag} {n : Nat} {t : TGs} (ht : GWs k t) : GW k (gTup K n t) := fun x σ H Q q => by
  obtain ⟨a, xs, e, hq, hl, q⟩ := q
  exact ⟨a, xs, e, hq, hl, ht _ _ _ _ q⟩
theorem gw_two {K : PySem.W.Frag} {i j k : Nat} (hi : i < k) (hj : j < k) : GW k (gTup K 2 (gCons (gName i) (gCons (gName j) gNil))) :=
  gw_tup (gws_cons (gw_name hi) (gws_cons (gw_name hj) gws_nil gm_name gms_nil) gm_name (gms_cons gm_name gms_nil))

/-- the tests of a comprehension -/
def PIf (X : Cx) (ifs : List Expr) (t : TT) : Prop :=
  ∀ (pins : List (Addr × Obj)) (s : Shared) (σ : St) (H : Hp) (Q : Bool → Hp → Prop), Inv X pins σ H s → t σ H Q →
    wpAny (model X.prog X.w) X.A (forIn ifs true fun c r => if r = true then do let ok ← isTrue c X.env (eval c X.env); pure (ForInStep.yield ok) else pure (ForInStep.yield r)) (TP X pins σ Q) X.xe s
def tYes : TT := fun _ H Q => Q true H
theorem pif_nil : PIf X [] tYes := fun _ _ _ H _ I h => wpAny_tests_nil ⟨H, I, h⟩
theorem pif_one {c : Expr} {t : TT} (h : PT X c t) : PIf X [c] t := fun pins s σ H Q I q => wpAny_tests_one (h pins s σ H Q I q)

/-- a comprehension's reading: W by the turn, a measure, what is laid so far, the heap -/
def rLC (J : It) (k : Nat) (ix : List Nat) (g : TG) (tt : TT) (te : TE) (σ : St) (H1 : Hp) (Q : List V → Hp → Prop) : Prop :=
  ∃ W : Nat → Nat → List V → Hp → Prop, (∃ m, W 0 m [] H1) ∧ ∀ i m ys H, W i m ys H →
    (J.stop i H ∧ Q ys H) ∨
    (J.go i H ∧ ∃ N : List V → Hp → Prop, (∀ ys' H', N ys' H' → ∃ m', m' < m ∧ W (i + 1) m' ys' H') ∧ ∀ x H', J.yld i H x H' → g x (capSt k ix σ) H' fun σ2 H2 => tt σ2 H2 fun c H3 =>
      if c = true then te σ2 H3 fun y H4 => ys.length < sizeLine ∧ N (ys ++ [y]) H4
      else N ys H3)

theorem lc_block {elt tg iter : Expr} {ifs : List Expr} {pos : Pos} {it : Addr} {tn : Nat → Heap → Prop} {J : It} {g : TG} {tt : TT} {te : TE} {E : Value → Shared → Prop} {Qf : List V → Hp → Prop} {RR : Value → Addr → Result → Shared → Prop}
    (L : LcScope X.N X.env.scope scope own ix) (hc : X.calm = true) (hg : ∀ fp s H, PG (X.comp (lcN X.N own ix) scope fp s H) tg g) (gw : GW own.length g)
    (ht : ∀ fp s H, PIf (X.comp (lcN X.N own ix) scope fp s H) ifs tt) (he : ∀ fp s H, PE (X.comp (lcN X.N own ix) scope fp s H) elt te)
    (I : Inv X pins σ H s) (T : Turn X.prog X.w X.K tg J fp it tn) (st : tn 0 s.heap) (hf : ∀ b ∈ fp, FpOk X pins H b)
    (hw : rLC J own.length ix g tt te σ H Qf)
    (hRR : ∀ (D C : Addr) (s' : Shared) (ys : List V) (H' : Hp) (m : Str → Option Value), s'.heap.Ns C m → C ≠ X.env.locals → (∀ x c, X.env.cells.lookup x = some c → c ≠ C) → X.s₀.heap.objs.size ≤ C → (∀ p ∈ X.pn ++ pins, p.1 ≠ C) → upd H' D (.lst ys) C = none → H' D = none →
      Inv X pins σ (upd H' D (.lst ys)) s' → Qf ys H' → RR (.ref D) C (.ok .next) s') :
    wpAny (model X.prog X.w) X.A (newList []) (fun acc s₃ => wpAny (model X.prog X.w) X.A (newFunctionEnv scope X.env.globals (capCells X.env scope.names []) [] X.env.qual none .none (some X.env)) (fun cenv s₄ =>
      codeAny (model X.prog X.w) X.A (.compStart (.ListComp elt [⟨tg, iter, ifs, 0⟩] scope pos) 0 (.ref it) acc { cenv with scope := relabel scope X.env }) (RR acc cenv.locals) s₄) E s₃) E s := by
  obtain ⟨W, ⟨m0, w0⟩, turn⟩ := hw
  have hlt : ∀ b ∈ fp, b < s.heap.objs.size := fun b hb => by
    obtain ⟨o, e, _⟩ := T.obj 0 s.heap st b hb
    exact Heap.lt_size e
  refine wpAny_newObj_type (wpAny_newFunctionEnv L.nocell (by intro y hy; simp at hy) (fun h₁ hns₁ hsb₁ => ?_) L.kind)
  dsimp only at hns₁ hsb₁ ⊢
  generalize hH2 : s.heap.push { cls := .type "list", dict := none, data := .seq ([] : List Value).toArray } = h2 at hns₁ hsb₁ ⊢
  have hC : h2.objs.size = s.heap.objs.size + 1 := by rw [← hH2, Heap.size_push]
  have old : ∀ b o, s.heap.get? b = some o → h₁.get? b = some o := fun b o e => by
    exact hsb₁.extBut b o (by rw [hC]; exact nlt1 (Heap.lt_size e)) (Heap.get?_push_of_some _ (hH2 ▸ Heap.get?_push_of_some _ e))
  have hacc : h₁.PlainList s.heap.objs.size #[] := ⟨_, hsb₁.extBut _ _ (by rw [hC]; exact nss _) (Heap.get?_push_of_some _ (hH2 ▸ Heap.get?_push_size _ rfl))⟩
  have hD0 : H s.heap.objs.size = none := I.hok.fresh (Nat.le_refl _)
  rw [hC] at hns₁
  have I0 := I.compStart (tk := s.toks + ([] : List (Str × Value)).length) L hf hlt old hns₁
  have sub := fun x c => capCells_sub (env := X.env) scope.names [] (fun _ _ z => by simp at z) x c
  have cellLt : ∀ x c, X.env.cells.lookup x = some c → c < s.heap.objs.size := fun x c e => by
    obtain ⟨v, q⟩ := I.cell x c e
    exact q.lt
  have stkLt : ∀ b ∈ frs X.stack, b < s.heap.objs.size := fun b hb => by
    obtain ⟨_, o, ho, _⟩ := I.stack.mem hb
    exact Heap.lt_size ho
  have env_eq : ({ newEnv scope h2.objs.size X.env.globals (capCells X.env scope.names []) X.env.qual none .none (some X.env) builtinsNs with scope := relabel scope X.env } : Env) = (X.comp (lcN X.N own ix) scope fp s H).env := by
    show compEnvC scope (capCells X.env scope.names []) h2.objs.size X.env = compEnvC scope (capCells X.env scope.names []) (s.heap.objs.size + 1) X.env
    rw [hC]
  -- the loop
  have loop : codeAny (model X.prog X.w) X.A (.compLoop (.ListComp elt [⟨tg, iter, ifs, 0⟩] scope pos) 0 (.ref it) (.ref s.heap.objs.size) (X.comp (lcN X.N own ix) scope fp s H).env) (RR (.ref s.heap.objs.size) (s.heap.objs.size + 1))
      { s with heap := h₁, toks := s.toks + ([] : List (Str × Value)).length } := by
    refine lc_loop (fun n s' => ∃ i ys H', Inv (X.comp (lcN X.N own ix) scope fp s H) [] (capSt own.length ix σ) H' s' ∧ tn i s'.heap ∧ (∀ b ∈ fp, H' b = none) ∧ H' s.heap.objs.size = none ∧
      (∃ its : List Value, Vals ys its ∧ s'.heap.PlainList s.heap.objs.size its.toArray) ∧ ys.length ≤ sizeLine ∧ W i n ys H') ?_ m0
      ⟨0, [], H, I0, T.keep _ _ _ st (fun b _ o e => old b o e), fun b hb => (hf b hb).1, hD0, ⟨[], .nil, hacc⟩, Nat.zero_le _, w0⟩
    rintro n s3 ⟨i, ys, H3, I3, st3, fr3, d3, ⟨its, rv, n3, hp3⟩, hz, w3⟩
    -- the list's own object is pinned
    have Ip := I3.pins_of (pins' := [(s.heap.objs.size, { cls := .type "list", data := .seq its.toArray n3 })]) (fun p hp => by
      have e : p = (s.heap.objs.size, { cls := .type "list", data := .seq its.toArray n3 }) := by simpa using hp
      subst e
      exact ⟨hp3, d3, nss _, fun z => absurd (stkLt _ z) (Nat.lt_irrefl _), fun v z => by cases z⟩)
    have stat : ∀ {H' : Hp}, (∀ b ∈ fp, H' b = none) → ∀ b ∈ fp, FpOk (X.comp (lcN X.N own ix) scope fp s H) [(s.heap.objs.size, { cls := .type "list", data := .seq its.toArray n3 })] H' b := fun hn b hb =>
      ⟨hn b hb, nlt1 (hlt b hb), I3.ok.exfs b hb, .inl hb, fun x c e => (I3.ok.exf b hb).2 x c e, fun p hp => by
        have e : p = (s.heap.objs.size, { cls := .type "list", data := .seq its.toArray n3 }) := by simpa using (show p ∈ ([] : List (Addr × Obj)) ++ [(s.heap.objs.size, { cls := .type "list", data := .seq its.toArray n3 })] from hp)
        subst e
        exact ngt (hlt b hb)⟩
    rcases turn i n ys H3 w3 with ⟨stop, qf⟩ | ⟨go, N, hN, step⟩
    · refine thn (T.done (X.comp (lcN X.N own ix) scope fp s H) rfl rfl rfl hc i _ s3 _ H3 _ Ip (stat fr3) st3 stop) fun r s4 ⟨hr, I4⟩ => ?_
      subst hr
      obtain ⟨e4, d4, _⟩ := I4.pin (s.heap.objs.size, { cls := .type "list", data := .seq its.toArray n3 }) (List.mem_append_right _ List.mem_cons_self)
      obtain ⟨mC, hnC, _⟩ := I4.loc
      -- the list is tracked now
      have hok : HOk X.prog X.w (upd H3 s.heap.objs.size (.lst ys)) s4.heap := fun b u e => by
        by_cases hb : b = s.heap.objs.size
        · subst hb
          rw [upd_same] at e
          cases e
          exact ⟨hz, its, n3, rv, e4⟩
        · rw [upd_ne hb] at e
          exact (I4.hok b u e).stay (fun c v _ q => q) (fun c q => by rw [upd_ne (ne_of_none q d4)]; exact q) fun c xs q => by rw [upd_ne (ne_of_none q d4)]; exact q
      have ub := I4.base
      have un : Un (frs X.stack) fp H (upd H3 s.heap.objs.size (.lst ys)) s.heap s4.heap :=
        ⟨ub.keep, ub.slot, fun b o e n hx => by rw [upd_ne (Nat.ne_of_lt (Heap.lt_size e))]; exact ub.free b o e n hx, ub.there,
          fun b xs e => by rw [upd_ne (ne_of_none (ub.tups b xs e) d4)]; exact ub.tups b xs e, fun b o u e => by rw [upd_ne (ne_of_none (ub.frzs b o u e) d4)]; exact ub.frzs b o u e,
          fun b ps e => by
            obtain ⟨more, q⟩ := ub.tbls b ps e
            exact ⟨more, by rw [upd_ne (ne_of_none q d4)]; exact q⟩⟩
      have I5 : Inv X pins σ (upd H3 s.heap.objs.size (.lst ys)) s4 := I.call' I4.os un hok I4.bare fun b hb => by
        obtain ⟨f0, f1, f2, f3, f4, f5⟩ := hf b hb
        exact ⟨f3, f1, f4, f5⟩
      refine hRR _ _ s4 ys H3 mC hnC ?_ ?_ ?_ ?_ ?_ d4 I5 qf
      · exact ngt1 I.lt
      · intro x c e
        exact nlt1 (cellLt x c e)
      · exact Nat.le_trans I.sz (Nat.le_succ _)
      · intro p hp
        exact nlt1 (Heap.lt_size (I.pin p hp).1)
      · rw [upd_ne (nss' _)]
        exact I4.free
    · refine thn (T.item (X.comp (lcN X.N own ix) scope fp s H) rfl rfl rfl hc i _ s3 _ H3 _ Ip (stat fr3) st3 go) fun r s4 ⟨u, hr, h4⟩ => ?_
      subst hr
      refine thn h4 fun _ s5 ⟨x, H5, I5, r5, y5, st5, fr5⟩ => ?_
      have I5' := I5.pinned (stat fr5) (T.obj _ _ st5)
      refine thn (hg fp s H _ s5 _ H5 x u _ I5' r5 (gw _ _ _ _ (step x H5 y5))) fun _ s6 ⟨σ6, H6, I6, q6, l6, k6⟩ => ?_
      refine thn (ht fp s H _ s6 σ6 H6 _ I6 q6) fun c s7 ⟨H7, I7, q7⟩ => ?_
      -- what holds of the list and the iterator whatever was done
      have again : ∀ {s8 : Shared} {H8 : Hp}, Inv (X.comp (lcN X.N own ix) scope fp s H) ([(s.heap.objs.size, { cls := .type "list", data := .seq its.toArray n3 })] ++ pinsAt fp s5.heap) σ6 H8 s8 →
          Inv (X.comp (lcN X.N own ix) scope fp s H) [] (capSt own.length ix σ) H8 s8 ∧ tn (i + 1) s8.heap ∧ (∀ b ∈ fp, H8 b = none) ∧ H8 s.heap.objs.size = none ∧ s8.heap.get? s.heap.objs.size = some { cls := .type "list", data := .seq its.toArray n3 } := fun {s8 H8} I8 => by
        obtain ⟨e8, d8, _⟩ := I8.pin (s.heap.objs.size, { cls := .type "list", data := .seq its.toArray n3 }) (List.mem_append_right _ (List.mem_append_left _ List.mem_cons_self))
        refine ⟨(I8.pins_of (pins' := []) fun p hp => by cases hp).weak l6.symm fun j v e => ?_, T.keep _ _ _ st5 fun b hb o e => (I8.pin (b, o) (List.mem_append_right _ (List.mem_append_right _ (mem_pinsAt hb e)))).1, fun b hb => ?_, d8, e8⟩
        · obtain ⟨i', j', rfl, _, _⟩ := capSt_get e
          rw [k6 _ (Nat.le_add_right _ _)]
          exact e
        · obtain ⟨o, e, d⟩ := T.obj _ _ st5 b hb
          exact (I8.pin (b, o) (List.mem_append_right _ (List.mem_append_right _ (mem_pinsAt hb e)))).2.1
      cases c with
      | false =>
        rw [if_neg Bool.false_ne_true] at q7 ⊢
        obtain ⟨m', hm, w7⟩ := hN _ _ q7
        obtain ⟨a1, a2, a3, a4, a5⟩ := again I7
        exact ⟨m', hm, i + 1, ys, H7, a1, a2, a3, a4, ⟨its, rv, n3, a5⟩, hz, w7⟩
      | true =>
        rw [if_pos rfl] at q7 ⊢
        refine thn (he fp s H _ s7 σ6 H7 _ I7 q7) fun v s8 ⟨y, H8, I8, r8, hz8, q8⟩ => ?_
        obtain ⟨m', hm, w8⟩ := hN _ _ q8
        obtain ⟨a1, a2, a3, a4, a5⟩ := again I8
        refine wpAny_list_append_plain (s := s8) (l := s.heap.objs.size) (items := its.toArray) ⟨n3, a5⟩ (fun h9 hl9 hs9 => ?_) (by have := rv.length; simp; omega)
        have I9 : Inv (X.comp (lcN X.N own ix) scope fp s H) [] (capSt own.length ix σ) H8 { s8 with heap := h9 } := a1.turned (t' := s8.toks) (it := s.heap.objs.size) (fun b o hb e => hs9.extBut b o hb e) a4 (nss _)
          (.inr (Nat.le_refl _)) (fun x c e => nlt (cellLt x c (sub x c e))) (fun p hp => absurd (show p ∈ ([] : List (Addr × Obj)) from hp) (by simp))
        refine ⟨m', hm, i + 1, ys ++ [y], H8, I9, T.keep _ _ _ a2 (fun b hb o e => hs9.extBut b o (nlt (hlt b hb)) e), a3, a4, ⟨its ++ [v], Vals.append rv (.cons r8 .nil), ?_⟩, ?_, w8⟩
        · have e : (its ++ [v]).toArray = its.toArray.push v := by simp
          rw [e]
          exact hl9
        · rw [List.length_append]
          show _ + 1 ≤ _
          omega
  show codeAny _ _ (.compStart _ 0 (.ref it) (.ref s.heap.objs.size) _) (RR (.ref s.heap.objs.size) h2.objs.size) _
  rw [hC]
  have e2 := env_eq
  rw [hC] at e2
  refine Eq.mpr (congrArg (fun e => codeAny (model X.prog X.w) X.A (.compStart (.ListComp elt [⟨tg, iter, ifs, 0⟩] scope pos) 0 (.ref it) (.ref s.heap.objs.size) e) (RR (.ref s.heap.objs.size) (s.heap.objs.size + 1)) { s with heap := h₁, toks := s.toks + ([] : List (Str × Value)).length }) e2) ?_
  exact codeAny_compStart_list loop (T.self X.A 0 _ _ _ (T.keep _ _ _ st fun b _ o e => old b o e) loop)
end
end L2

set_option maxHeartbeats 4000000
namespace L2
open PySem PySem.Spec PyProof.Rows
section
variable {X : Cx} {scope : Scope} {own : List Str} {ix : List Nat}
def tLC (wi : TI) (k : Nat) (ix : List Nat) (g : TG) (tt : TT) (te : TE) : TE := fun σ H Q => wi σ H fun J H1 => rLC J k ix g tt te σ H1 fun ys H' => ∀ a, H' a = none → Q (.ref a) (upd H' a (.lst ys))
theorem Inv.clos {pins : List (Addr × Obj)} {σ : St} {H : Hp} {s : Shared} (I : Inv X pins σ H s) (L : LcScope X.N X.env.scope scope own ix) : closureFor scope X.env = pure (capCells X.env scope.names []) :=
  closure_cap fun x hx hf => I.ok.has x.1 (L.free x hx hf)
/-- [elt for tg in iter if ..] -/
theorem pe_lc {elt tg iter : Expr} {ifs : List Expr} {pos : Pos} {wi : TI} {g : TG} {tt : TT} {te : TE} (hi : PI X tg iter wi) (L : LcScope X.N X.env.scope scope own ix) (hc : X.calm = true)
    (hg : ∀ fp s H, PG (X.comp (lcN X.N own ix) scope fp s H) tg g) (gw : GW own.length g) (ht : ∀ fp s H, PIf (X.comp (lcN X.N own ix) scope fp s H) ifs tt) (he : ∀ fp s H, PE (X.comp (lcN X.N own ix) scope fp s H) elt te)
    (hs : ∀ x, foldedSetIterable iter X.env x = pure x := by intro _; rfl) : PE X (.ListComp elt [⟨tg, iter, ifs, 0⟩] scope pos) (tLC wi own.length ix g tt te) := by
  intro pins s σ H Q I h
  rw [eval_ListComp]
  refine wpAny_comprehension_free (use := none) rfl hs (I.clos L) L.kind L.names (thn (hi pins s σ H _ I h) fun v s1 h1 => thn h1 fun itv s2 h2 => ?_)
  obtain ⟨it, fp, tn, J, H2, e, I2, T, st2, f2, hw⟩ := h2
  subst e
  refine lc_block (RR := fun acc C => compPost (model X.prog X.w) X.A X.xe none (EP X pins σ Q) acc C) L hc hg gw ht he I2 T st2 f2 hw ?_
  intro D C s' ys H' m hn c1 c2 c3 c4 c5 d I' q
  exact ⟨m, hn, fun h' hs' => ⟨.ref D, _, I'.turned (t' := s'.toks) (it := C) (fun b o hb e => hs'.extBut b o hb e) c5 c1 (.inr c3) c2 c4, rfl, q D d⟩⟩
end

/-! ### readings of a comprehension that are used: Pv by the turn, what is laid so far, the heap -/
section
variable {k : Nat} {ix : List Nat} {g : TG} {tt : TT} {te : TE} {σ : St} {H1 : Hp} {Q : List V → Hp → Prop}
/-- the turn of a comprehension -/
def lcTurn (k : Nat) (ix : List Nat) (g : TG) (tt : TT) (te : TE) (σ : St) (x : V) (ys : List V) (H : Hp) (N : List V → Hp → Prop) : Prop :=
  g x (capSt k ix σ) H fun σ2 H2 => tt σ2 H2 fun c H3 => if c = true then te σ2 H3 fun y H4 => ys.length < sizeLine ∧ N (ys ++ [y]) H4 else N ys H3
theorem lc_by {J : It} {n : Nat} (Pv : Nat → List V → Hp → Prop) (h0 : Pv 0 [] H1) (hgo : ∀ i ys H, i < n → Pv i ys H → J.go i H) (hst : ∀ ys H, Pv n ys H → J.stop n H)
    (hs : ∀ i ys H x H', i < n → Pv i ys H → J.yld i H x H' → lcTurn k ix g tt te σ x ys H' (Pv (i + 1))) (hd : ∀ ys H, Pv n ys H → Q ys H) : rLC J k ix g tt te σ H1 Q := by
  refine ⟨fun i m ys H => m = n - i ∧ i ≤ n ∧ Pv i ys H, ⟨n, by simp, Nat.zero_le _, h0⟩, ?_⟩
  rintro i m ys H ⟨rfl, hi, p⟩
  by_cases hlt : i < n
  · exact .inr ⟨hgo i ys H hlt p, Pv (i + 1), fun ys' H' q => ⟨n - (i + 1), by omega, rfl, hlt, q⟩, fun x H' y => hs i ys H x H' hlt p y⟩
  · have e : i = n := by omega
    subst e
    exact .inl ⟨hst ys H p, hd ys H p⟩
theorem lc_range {lo : Int} {n : Nat} (Pv : Nat → List V → Hp → Prop) (h0 : Pv 0 [] H1) (hs : ∀ i ys H, i < n → Pv i ys H → lcTurn k ix g tt te σ (.int (lo + i)) ys H (Pv (i + 1)))
    (hd : ∀ ys H, Pv n ys H → Q ys H) : rLC (Itr lo n) k ix g tt te σ H1 Q :=
  lc_by (n := n) Pv h0 (fun i _ _ h _ => h) (fun _ _ _ => Nat.le_refl _) (fun i ys H x H' h p y => by
    obtain ⟨e, y⟩ := y
    subst e y
    exact hs i ys _ h p) hd
theorem lc_list {K : PySem.W.Frag} {a : Addr} {xs : List V} (Pv : Nat → List V → Hp → Prop) (h0 : Pv 0 [] H1) (hl : ∀ i ys H, i ≤ xs.length → Pv i ys H → SqL K H a xs)
    (hs : ∀ i ys H x, xs[i]? = some x → Pv i ys H → lcTurn k ix g tt te σ x ys H (Pv (i + 1))) (hd : ∀ ys H, Pv xs.length ys H → Q ys H) : rLC (Itl K a) k ix g tt te σ H1 Q :=
  lc_by (n := xs.length) Pv h0 (fun i ys H h p => ⟨xs, xs[i], hl i ys H (Nat.le_of_lt h) p, by simp [h]⟩) (fun ys H p => ⟨xs, hl _ ys H (Nat.le_refl _) p, Nat.le_refl _⟩) (fun i ys H x H' h p y => by
    obtain ⟨e, y⟩ := y
    subst e
    exact hs i ys _ x (y xs (hl i ys _ (Nat.le_of_lt h) p)) p) hd
theorem lc_tup {K : PySem.W.Frag} {a : Addr} {xs : List V} (Pv : Nat → List V → Hp → Prop) (h0 : Pv 0 [] H1) (hl : ∀ i ys H, i ≤ xs.length → Pv i ys H → SqT K H a xs)
    (hs : ∀ i ys H x, xs[i]? = some x → Pv i ys H → lcTurn k ix g tt te σ x ys H (Pv (i + 1))) (hd : ∀ ys H, Pv xs.length ys H → Q ys H) : rLC (Itt K a) k ix g tt te σ H1 Q :=
  lc_by (n := xs.length) Pv h0 (fun i ys H h p => ⟨xs, xs[i], hl i ys H (Nat.le_of_lt h) p, by simp [h]⟩) (fun ys H p => ⟨xs, hl _ ys H (Nat.le_refl _) p, Nat.le_refl _⟩) (fun i ys H x H' h p y => by
    obtain ⟨e, y⟩ := y
    subst e
    exact hs i ys _ x (y xs (hl i ys _ (Nat.le_of_lt h) p)) p) hd
end
end L2

set_option maxHeartbeats 4000000
namespace L2
open PySem PySem.Spec PyProof.Rows

/-! ### more that a loop or a comprehension walks -/
/-- n items, the i-th is f i -/
def Itf (f : Nat → V) (n : Nat) : It := ⟨fun i _ => i < n, fun i H x H' => H' = H ∧ x = f i, fun i _ => i = n⟩
theorem turn_walks {P : Program} {w : World} {K : PySem.W.Frag} {tg : Expr} {it : Addr} {n : Nat} {Pv : Nat → Value → Prop} {tn : Nat → Heap → Prop} {f : Nat → V}
    (W : ∀ A : Around, A.handled = none → Walks P w A it [it] [it] n Pv tn) (ob : ∀ i h, tn i h → ∃ o nm vs, h.get? it = some o ∧ o.cls = .type nm ∧ o.data = .fields vs ∧ ["enumerate", "zip", "dict_itemiterator", "dict_reverseitemiterator", "odict_iterator", "itertools.zip_longest", "itertools.pairwise"].contains nm = false)
    (rel : ∀ i v, Pv i v → RelV (f i) v) (hself : ∀ (A : Around) (i : Nat) (s : Shared) (Q : Value → Shared → Prop) (E : Value → Shared → Prop), tn i s.heap → Q (.ref it) s → wpAny (model P w) A (pyIter (.ref it)) Q E s) : Turn P w K tg (Itf f n) [it] it tn where
  mem := by simp
  obj := fun i h st b hb => by
    have e : b = it := by simpa using hb
    subst e
    obtain ⟨o, nm, vs, e, _, d, _⟩ := ob i h st
    exact ⟨o, e, fun v z => by rw [d] at z; cases z⟩
  keep := fun i h h' st k => by
    by_cases hA : ∃ A : Around, A.handled = none
    · obtain ⟨A, hA⟩ := hA
      exact (W A hA).frame i h h' st k
    · exact absurd ⟨callerA, rfl⟩ hA
  item := by
    intro X hP hw hK hc i pins s σ H E I hf st hg
    subst hP hw hK
    obtain ⟨f0, f1, f2, f3, f4, f5⟩ := hf it (by simp)
    refine (W X.A (I.ok.hd hc)).item i s _ _ hg st fun v h' tk hv st' kk => ?_
    have I1 : Inv X pins σ H { s with heap := h', toks := tk } := I.turned (fun b o hb e => kk b o (by simpa using hb) e) f0 f1 f3 f4 f5
    obtain ⟨o, nm, vs, e, c, d, hn⟩ := ob _ _ st'
    exact ⟨v, rfl, go_of (s := { s with heap := h', toks := tk }) e c d hn ⟨f i, H, I1, rel i v hv, ⟨rfl, rfl⟩, st', fun b hb => (hf b hb).1⟩⟩
  done := by
    intro X hP hw hK hc i pins s σ H E I hf st hg
    subst hP hw hK
    obtain ⟨f0, f1, f2, f3, f4, f5⟩ := hf it (by simp)
    have e : i = n := hg
    subst e
    exact (W X.A (I.ok.hd hc)).done s _ _ st fun h' tk kk => ⟨rfl, I.turned (fun b o hb e => kk b o (by simpa using hb) e) f0 f1 f3 f4 f5⟩
  self := hself

theorem rangeSize_small {i j c : Int} (q1 : 0 < c) (q3 : -1000000 ≤ i) (q4 : i < 1000000) (q5 : -1000000 ≤ j) (q6 : j < 1000000) : 0 ≤ Builtin.Range.rangeSize i j c ∧ Builtin.Range.rangeSize i j c ≤ 2000000 := by
  unfold Builtin.Range.rangeSize
  rw [if_pos (show c > 0 from q1)]
  by_cases h : i < j
  · rw [if_pos h]
    have h1 : 0 ≤ (j - i - 1) / c := Int.ediv_nonneg (by omega) (by omega)
    have h2 : (j - i - 1) / c ≤ j - i - 1 := Int.ediv_le_self _ (by omega)
    omega
  · rw [if_neg h]; omega
theorem range_small {i j c : Int} (q1 : 0 < c) (q2 : c < 1000) (q3 : -1000000 ≤ i) (q4 : i < 1000000) (q5 : -1000000 ≤ j) (q6 : j < 1000000) : Builtin.Range.small i j c = true := by
  obtain ⟨h1, h2⟩ := rangeSize_small q1 q3 q4 q5 q6
  unfold Builtin.Range.small
  simp only [Builtin.Range.rangeFitsLong, Bool.and_eq_true, Bool.or_eq_true, decide_eq_true_eq, beq_iff_eq, show c > 0 from q1, if_true]
  omega
section
variable {X : Cx} {tg : Expr}
theorem Inv.fp1 {pins : List (Addr × Obj)} {σ : St} {H : Hp} {s : Shared} (I : Inv X pins σ H s) : ∀ b ∈ [s.heap.objs.size], FpOk X pins H b := fun b hb => by
  have e : b = s.heap.objs.size := by simpa using hb
  subst e
  exact I.fpOk (Nat.le_refl _) (I.hok.fresh (Nat.le_refl _))

/-- range(lo, hi, step), step a small positive number -/
def iRng3 (ta : TA) : TI := fun σ H R => ta σ H fun vs H1 => ∃ i j c : Int, vs = [.int i, .int j, .int c] ∧ (0 < c ∧ c < 1000 ∧ -1000000 ≤ i ∧ i < 1000000 ∧ -1000000 ≤ j ∧ j < 1000000) ∧ R (Itf (fun k => .int (i + k * c)) (Builtin.Range.rangeSize i j c).toNat) H1
theorem pi_range3 {a b c : Expr} {ta : TA} {p pos : Pos} (hg : Gl X "range") (hm : X.mg "range" = none) (ha : PA X [a, b, c] ta) (hs : starEach [a, b, c] X.env = [(false, eval a X.env), (false, eval b X.env), (false, eval c X.env)] := by rfl) (hs2 : starEach [b, c] X.env = [(false, eval b X.env), (false, eval c X.env)] := by rfl) :
    PI X tg (.Call (.Name "range" p) [a, b, c] [] pos) (iRng3 ta) := by
  intro pins s σ H R I h
  refine Call_ (ld_blt I hg hm boot_range (PyProof.Rows.callWith_type1 (thn (ha pos pins s σ H _ I h) fun us s1 ⟨vs, H1, I1, r1, q1⟩ => ?_) (by rw [hs, hs2]) (by rw [hs2]; rfl)))
  obtain ⟨i, j, c, e, ⟨q1, q2, q3, q4, q5, q6⟩, q⟩ := q1
  subst e
  cases r1 with
  | cons r rr =>
    cases rr with
    | cons r' rr =>
      cases rr with
      | cons r'' rr =>
        cases rr
        obtain ⟨t, rfl⟩ := r
        obtain ⟨t', rfl⟩ := r'
        obtain ⟨t'', rfl⟩ := r''
        refine call_range_3 (by omega) ?_ (.inl (PyProof.noPylong_small (by omega)))
        obtain ⟨z0, z1⟩ := rangeSize_small q1 q3 q4 q5 q6
        have hsz : (((Builtin.Range.rangeSize i j c).toNat : Nat) : Int) = Builtin.Range.rangeSize i j c := by omega
        refine wpAny_pyIter_range (IsRange.new ..) (range_small q1 q2 q3 q4 q5 q6) ?_
        have I2 : Inv X pins σ H1 { s1 with heap := s1.heap.push { cls := .type "range", data := .fields #[.int i t, .int j t', .int c t''] }, toks := s1.toks } := I1.kept fun b o e => Heap.get?_push_of_some _ e
        refine ⟨_, [_], _, _, H1, rfl, I2.kept (t' := s1.toks) fun b o e => Heap.get?_push_of_some _ e, turn_walks (f := fun k => .int (i + k * c)) (fun A hA => Walks.range hA _ i c (Builtin.Range.rangeSize i j c).toNat) (fun k h st => ⟨_, "range_iterator", _, st, rfl, rfl, by decide⟩) (fun k v ⟨t, e⟩ => ⟨t, e⟩) (fun A k s Q E st hq => wpAny_pyIter_rangeiter st hq), ?_, fun b hb => I2.fp1 b hb, q⟩
        show IsRangeIter _ _ (i + ((0 : Nat) : Int) * c) (((Builtin.Range.rangeSize i j c).toNat : Nat) - ((0 : Nat) : Int)) c
        have e1 : i + ((0 : Nat) : Int) * c = i := by simp
        have e2 : (((Builtin.Range.rangeSize i j c).toNat : Nat) : Int) - ((0 : Nat) : Int) = Builtin.Range.rangeSize i j c := by rw [hsz]; simp
        rw [e1, e2]
        exact Heap.get?_push_size _ rfl

/-! ### the keys of a dict: it is frozen while it is walked -/
theorem Inv.freeze {pins : List (Addr × Obj)} {σ : St} {H : Hp} {s : Shared} {d : Addr} {u : HO} {o : Obj} (I : Inv X pins σ H s) (h : H d = some u) (hu : Mut (some u)) (ho : s.heap.get? d = some o) : Inv X pins σ (upd H d (.frz o u)) s := by
  have nt : ∀ b v, H b = some v → ¬ Mut (some v) → b ≠ d := fun b v q n z => by subst z; rw [h] at q; cases q; exact n hu
  have hok : HOk X.prog X.w (upd H d (.frz o u)) s.heap := fun b v e => by
    by_cases hb : b = d
    · subst hb
      rw [upd_same] at e
      cases e
      refine ⟨ho, (I.hok b u h).stay (fun c w' _ q => q) (fun c q => ?_) fun c xs q => ?_⟩
      · rw [upd_ne (nt c _ q fun z => z)]; exact q
      · rw [upd_ne (nt c _ q fun z => z)]; exact q
    · rw [upd_ne hb] at e
      refine (I.hok b v e).stay (fun c w' _ q => q) (fun c q => ?_) fun c xs q => ?_
      · rw [upd_ne (nt c _ q fun z => z)]; exact q
      · rw [upd_ne (nt c _ q fun z => z)]; exact q
  refine I.un (h' := s.heap) (t' := s.toks) ⟨fun b o q _ _ _ => q, fun b o q _ _ _ => ⟨o.slots, q⟩, fun b o q n _ => ?_, fun b o q _ => ⟨o, q⟩, fun b xs q => ?_, fun b o v q => ?_, fun b ps q => ⟨#[], ?_⟩⟩ hok
  · rw [upd_ne (fun z => by subst z; rw [h] at n; cases n)]; exact n
  · rw [upd_ne (nt b _ q fun z => z)]; exact q
  · rw [upd_ne (nt b _ q fun z => z)]; exact q
  · rw [upd_ne (nt b _ q fun z => z), q]; simp
/-- the keys of the dict at d, which is frozen -/
def Itd (d : Addr) (o : Obj) (kvs : List (Key × V)) : It :=
  ⟨fun i H => H d = some (.frz o (.dK kvs)) ∧ i < kvs.length, fun i H x H' => H' = H ∧ ∃ k v, kvs[i]? = some (k, v) ∧ x = kV k, fun i H => H d = some (.frz o (.dK kvs)) ∧ i = kvs.length⟩
theorem KV.at {kvs : List (Key × V)} {vs : List (Key × Value)} (r : KV kvs vs) {i : Nat} {k : Key} {v : Value} (e : vs[i]? = some (k, v)) : ∃ x, kvs[i]? = some (k, x) ∧ RelV x v := by
  induction r generalizing i with
  | nil => simp at e
  | @cons p q ps qs h t ih =>
    cases i with
    | zero =>
      have e' : q = (k, v) := by simpa using e
      obtain ⟨p1, p2⟩ := p
      subst e'
      obtain ⟨h1, h2⟩ := h
      have h1' : p1 = k := h1
      subst h1'
      exact ⟨p2, rfl, h2⟩
    | succ i => exact ih (by simpa using e)
theorem kV_of {P : Program} {w : World} {k : Key} {u : Value} (h : (mixKind P w).is k u = true) : RelV (kV k) u := by
  rcases keyIs_shape (k := k) (v := u) h with ⟨i, t, rfl, rfl⟩ | ⟨x, t, rfl, rfl⟩
  · exact ⟨t, rfl⟩
  · exact ⟨t, rfl⟩
theorem turn_dict {P : Program} {w : World} {K : PySem.W.Frag} (d it : Addr) (o : Obj) (kvs : List (Key × V)) (vs : List (Key × Value)) (ep : Nat) (hlen : kvs.length = vs.length) (rel : KV kvs vs) (hat : ∀ h : Heap, h.get? d = some o → h.DictAt (mixKind P w) d vs ep) :
    Turn P w K tg (Itd d o kvs) [it] it (fun i h => h.IsKeyIter it d i vs.length ep) where
  mem := by simp
  obj := fun i h st b hb => by
    have e : b = it := by simpa using hb
    subst e
    obtain ⟨o, e, c, d⟩ := st
    exact ⟨o, e, fun v z => by rw [d] at z; cases z⟩
  keep := fun i h h' st k => st.at fun o e => k it (by simp) o e
  item := by
    intro X hP hw hK hc i pins s σ H E I hf st hg
    subst hP hw hK
    obtain ⟨hd, hi⟩ := hg
    obtain ⟨f0, f1, f2, f3, f4, f5⟩ := hf it (by simp)
    obtain ⟨ho, _⟩ := (show ObjOk X.prog X.w H s.heap d (.frz o (.dK kvs)) from I.hok d _ hd)
    have hvi : i < vs.length := by omega
    refine wpAny_pyNext_dict_item (knd := mixKind X.prog X.w) st (hat s.heap ho) (k := vs[i].1) (v := vs[i].2) (by simp [hvi]) fun key h' hkey st' sb => ?_
    have I1 : Inv X pins σ H { s with heap := h' } := I.turned (t' := s.toks) (fun b o hb e => (sb.2 b hb).trans e) f0 f1 f3 f4 f5
    obtain ⟨x, hx, _⟩ := rel.at (i := i) (k := vs[i].1) (v := vs[i].2) (by simp [hvi])
    obtain ⟨oi, e, c, dd⟩ := id st'
    exact ⟨key, rfl, go_of (s := { s with heap := h' }) e c dd (by decide) ⟨kV vs[i].1, H, I1, kV_of hkey, ⟨rfl, _, _, hx, rfl⟩, st', fun b hb => (hf b hb).1⟩⟩
  done := by
    intro X hP hw hK hc i pins s σ H E I hf st hg
    subst hP hw hK
    obtain ⟨hd, hi⟩ := hg
    obtain ⟨f0, f1, f2, f3, f4, f5⟩ := hf it (by simp)
    obtain ⟨ho, _⟩ := (show ObjOk X.prog X.w H s.heap d (.frz o (.dK kvs)) from I.hok d _ hd)
    exact wpAny_pyNext_dict_end (knd := mixKind X.prog X.w) (I.ok.hd hc) st (hat s.heap ho) (List.getElem?_eq_none_iff.mpr (by omega)) fun h' eb => ⟨rfl, I.turned (t' := s.toks) (fun b o hb e => eb b o hb e) f0 f1 f3 f4 f5⟩
  self := fun _ _ _ _ _ st h => wpAny_pyIter_keyiter st h
def iDict (td : TE) : TI := fun σ H R => td σ H fun x H1 => ∃ d kvs, x = .ref d ∧ H1 d = some (.dK kvs) ∧ ∀ o, R (Itd d o kvs) (upd H1 d (.frz o (.dK kvs)))
theorem pi_dict {e : Expr} {td : TE} (hl : PE X e td) : PI X tg e (iDict td) := by
  intro pins s σ H R I h
  refine thn (hl pins s σ H _ I h) fun v s1 ⟨x, H1, I1, r1, q1⟩ => ?_
  obtain ⟨d, kvs, e, hd, q⟩ := q1
  subst e
  cases r1
  obtain ⟨hz, hS, vs, rel, m⟩ : kvs.length ≤ sizeLine ∧ (d == sysModules) = false ∧ ∃ vs, KV kvs vs ∧ s1.heap.DictOf (mixKind X.prog X.w) d vs := I1.hok d _ hd
  obtain ⟨ep, o, es, ho, rest⟩ := m.dictAt
  have hat : ∀ h : Heap, h.get? d = some o → h.DictAt (mixKind X.prog X.w) d vs ep := fun h e => ⟨o, es, e, rest⟩
  have I2 := I1.freeze hd True.intro ho
  refine wpAny_pyIter_dict hS (hat _ ho) ?_
  refine ⟨s1.heap.objs.size, [s1.heap.objs.size], _, _, _, rfl, I2.kept (t' := s1.toks) fun b o e => Heap.get?_push_of_some _ e, turn_dict d _ o kvs vs ep rel.length rel hat, ⟨_, Heap.get?_push_size _ rfl, rfl, rfl⟩, fun b hb => I2.fp1 b hb, q o⟩

/-! ### enumerate(list), its pairs unpacked -/
/-- the i-th pair: a new tuple -/
def Ite (K : PySem.W.Frag) (a : Addr) : It :=
  ⟨fun i H => ∃ xs x, SqL K H a xs ∧ xs[i]? = some x, fun i H x H' => ∃ p y, H p = none ∧ H' = upd H p (.tup [.int i, y]) ∧ x = .ref p ∧ ∀ xs, SqL K H a xs → xs[i]? = some y, fun i H => ∃ xs, SqL K H a xs ∧ xs.length ≤ i⟩
theorem turn_enum {P : Program} {w : World} {K : PySem.W.Frag} {elts : List Expr} {x1} {tp : Pos} (a e it : Addr) (hei : e ≠ it) : Turn P w K (.Tuple elts x1 tp) (Ite K a) [e, it] e (fun i h => (∃ old, IsEnum h e it i old) ∧ h.IsListIter it a i) where
  mem := by simp
  obj := fun i h st b hb => by
    obtain ⟨⟨old, s1⟩, ⟨o, e2, c, d⟩⟩ := st
    rcases List.mem_cons.mp hb with rfl | hb
    · exact ⟨_, s1, fun v z => by
        have z' : Data.fields _ = Data.cell v := z
        cases z'⟩
    · have e' : b = it := by simpa using hb
      subst e'
      exact ⟨o, e2, fun v z => by rw [d] at z; cases z⟩
  keep := fun i h h' st k => ⟨let ⟨old, s1⟩ := st.1; ⟨old, k e (by simp) _ s1⟩, st.2.at fun o q => k it (by simp) o q⟩
  item := by
    intro X hP hw hK hc i pins s σ H E I hf st hg
    subst hP hw hK
    obtain ⟨xs, x, hq, hx⟩ := hg
    obtain ⟨its, rv, p, hz⟩ := I.list hq
    obtain ⟨u, hu, ru⟩ := rv.get hx
    obtain ⟨f0, f1, f2, f3, f4, f5⟩ := hf e (by simp)
    obtain ⟨g0, g1, g2, g3, g4, g5⟩ := hf it (by simp)
    obtain ⟨⟨old, s1⟩, s2⟩ := st
    have he : e < s.heap.objs.size := Heap.lt_size s1
    have hit : it < s.heap.objs.size := by obtain ⟨o, q, _⟩ := s2; exact Heap.lt_size q
    refine wpAny_pyNext_enum_item s1 s2 p.isList (x := u) (by simpa using hu) hei fun h1 heo hit1 ht1 hz1 hk1 => ?_
    refine ⟨_, rfl, wpAny_letOwnedTupleGo_enum heo fun h2 he2 hs2 => ?_⟩
    have hn : H s.heap.objs.size = none := I.hok.fresh (Nat.le_refl _)
    have keep : ∀ b o, b ≠ e → b ≠ it → s.heap.get? b = some o → h2.get? b = some o := fun b o h1' h2' q => (hs2.2 b h1').trans (hk1 b o h1' h2' q)
    have tup : h2.get? s.heap.objs.size = some { cls := .type "tuple", data := .seq #[.int i s.toks, u] } := (hs2.2 _ (ngt he)).trans ht1
    have I2 : Inv X pins σ (upd H s.heap.objs.size (.tup [.int i, x])) { s with heap := h2, toks := s.toks + 1 } := by
      have nitx : ∀ b v, H b = some v → b ≠ e ∧ b ≠ it := fun b v q => ⟨(fun z => by rw [z, f0] at q; cases q), (fun z => by rw [z, g0] at q; cases q)⟩
      refine I.step (g' := s.gens) (d' := s.drawn) (ch := [e, it]) (fun b hb => ?_) (fun b o _ _ hc' q _ => keep b o (fun z => hc' (by simp [z])) (fun z => hc' (by simp [z])) q) (fun b o _ _ hc' q _ => ⟨o.slots, keep b o (fun z => hc' (by simp [z])) (fun z => hc' (by simp [z])) q⟩)
        (fun b o _ q n => by rw [upd_ne (nlt (Heap.lt_size q))]; exact n) (fun b o hc' q => ⟨o, keep b o (fun z => hc' (by simp [z])) (fun z => hc' (by simp [z])) q⟩)
        (fun b xs q => by rw [upd_ne (ne_of_none q hn)]; exact q) (fun b o v q => by rw [upd_ne (ne_of_none q hn)]; exact q) (fun b ps q => ⟨#[], by rw [upd_ne (ne_of_none q hn), q]; simp⟩) (fun m hm => ?_) (fun b v q => ?_) I.bare
      · rcases List.mem_cons.mp hb with rfl | hb
        · exact ⟨f3, f1, f4, f5⟩
        · have e' : b = it := by simpa using hb
          subst e'
          exact ⟨g3, g1, g4, g5⟩
      · obtain ⟨o, es, ep, ho, r⟩ := hm
        exact ⟨o, es, ep, keep _ o (Ne.symm f1) (Ne.symm g1) ho, r⟩
      · by_cases hb : b = s.heap.objs.size
        · subst hb
          rw [upd_same] at q
          cases q
          exact ⟨(show 2 ≤ sizeLine by rw [sizeLine_eq]; decide), [.int i s.toks, u], .cons ⟨_, rfl⟩ (.cons ru .nil), ⟨_, tup, rfl, 0, rfl⟩, _, tup, rfl⟩
        · rw [upd_ne hb] at q
          refine (I.hok b v q).stay (fun c w' hc' q' => ?_) (fun c q' => by rw [upd_ne (ne_of_none q' hn)]; exact q') fun c xs q' => by rw [upd_ne (ne_of_none q' hn)]; exact q'
          rcases hc' with z | z
          · subst z; exact keep c w' (nitx c v q).1 (nitx c v q).2 q'
          · exact keep c w' (nitx c _ z).1 (nitx c _ z).2 q'
    refine ⟨.ref s.heap.objs.size, _, I2, rfl, ⟨_, x, hn, rfl, rfl, fun ys hy => by rw [I.list_inj hy hq]; exact hx⟩, ⟨⟨u, ?_⟩, ?_⟩, fun b hb => ?_⟩
    · have e1 : ((i + 1 : Nat) : Int) = (i : Int) + 1 := by omega
      rw [e1]
      exact he2
    · exact hit1.at fun o q => (hs2.2 _ (Ne.symm hei)).trans q
    · have hb' : b < s.heap.objs.size := by
        rcases List.mem_cons.mp hb with rfl | hb
        · exact he
        · have e' : b = it := by simpa using hb
          subst e'; exact hit
      rw [upd_ne (nlt hb')]
      exact (hf b hb).1
  done := by
    intro X hP hw hK hc i pins s σ H E I hf st hg
    subst hP hw hK
    obtain ⟨xs, hq, hx⟩ := hg
    obtain ⟨its, rv, p, hz⟩ := I.list hq
    obtain ⟨g0, g1, g2, g3, g4, g5⟩ := hf it (by simp)
    obtain ⟨⟨old, s1⟩, s2⟩ := st
    have hl := rv.length
    exact wpAny_pyNext_enum_end (I.ok.hd hc) s1 s2 p.isList (by simp; omega) fun h' eb => ⟨rfl, I.turned (t' := s.toks) (fun b o hb q => eb b o hb q) g0 g1 g3 g4 g5⟩
  self := fun A i s Q E st h => by
    obtain ⟨⟨old, s1⟩, s2⟩ := st
    have hT : s.TypeIs (.ref e) "enumerate" := ⟨_, s1, rfl⟩
    refine wpAny_pyIter_slot hT PySem.F.slot_enumerate_iter (wpAny_call_entry PySem.F.slot_enumerate_iter hT PySem.F.entry_enumerate_iter ?_ (PySem.F.args_enumerate_iter_1 _))
    show wpAny _ _ (ret (.ref e)) _ _ s
    exact wpAny_pure ⟨_, rfl, "enumerate", _, hT, PySem.F.slot_enumerate_next.lookup, h⟩
def iEnum (K : PySem.W.Frag) (ta : TA) : TI := fun σ H R => ta σ H fun vs H1 => ∃ a, vs = [.ref a] ∧ (∃ xs, SqL K H1 a xs) ∧ R (Ite K a) H1
theorem pi_enum {a : Expr} {ta : TA} {p pos : Pos} {elts : List Expr} {x1} {tp : Pos} (hg : Gl X "enumerate") (hm : X.mg "enumerate" = none) (ha : PA X [a] ta) (hs : starEach [a] X.env = [(false, eval a X.env)] := by rfl) : PI X (.Tuple elts x1 tp) (.Call (.Name "enumerate" p) [a] [] pos) (iEnum X.K ta) := by
  intro pins s σ H R I h
  refine Call_ (ld_blt I hg hm (u := .type "enumerate") (by decide +kernel) (PyProof.Rows.callWith_type1 (thn (ha pos pins s σ H _ I h) fun us s1 ⟨vs, H1, I1, r1, q1⟩ => ?_) hs rfl))
  obtain ⟨l, e, ⟨xs, hq⟩, q⟩ := q1
  subst e
  cases r1 with
  | cons r rr =>
    cases rr
    cases r
    obtain ⟨its, rv, p, hz⟩ := I1.list hq
    refine call_enumerate_list p.isList fun h' he hit hsz kp => ?_
    have I2 : Inv X pins σ H1 { s1 with heap := h' } := I1.kept (t' := s1.toks) kp
    have T : Turn X.prog X.w X.K (.Tuple elts x1 tp) (Ite X.K l) [s1.heap.objs.size + 1, s1.heap.objs.size] (s1.heap.objs.size + 1) (fun i h => (∃ old, IsEnum h (s1.heap.objs.size + 1) s1.heap.objs.size i old) ∧ h.IsListIter s1.heap.objs.size l i) := turn_enum l _ _ (nss' _)
    refine T.self X.A 0 { s1 with heap := h' } _ _ ⟨⟨_, he⟩, hit⟩ ?_
    refine ⟨s1.heap.objs.size + 1, _, _, _, H1, rfl, I2, T, ⟨⟨_, he⟩, hit⟩, fun b hb => ?_, q⟩
    have hb' : s1.heap.objs.size ≤ b := by
      rcases List.mem_cons.mp hb with rfl | hb
      · exact Nat.le_succ _
      · have e' : b = s1.heap.objs.size := by simpa using hb
        subst e'; exact Nat.le_refl _
    obtain ⟨f0, f1⟩ := I1.fpOk hb' (I1.hok.fresh hb')
    exact ⟨f0, f1⟩
end
end L2

set_option maxHeartbeats 4000000
namespace L2
open PySem PySem.Spec PyProof.Rows
section
variable {X : Cx}
/-- x * n of a text -/
theorem op_mul_str : OpR X (binaryOp .Mult) (fun x y H Q => ∃ i n, x = .str i ∧ y = .int n ∧ i.length ≤ 1000 ∧ 0 ≤ n ∧ n ≤ 1000 ∧ Q (.str (Txt.mul i n)) H) := by
  intro pins s σ H x y v u Q I rx ry h
  obtain ⟨i, n, rfl, rfl, h1, h2, h3, q⟩ := h
  obtain ⟨t, rfl⟩ := rx
  obtain ⟨t', rfl⟩ := ry
  exact SB.mul (PyProof.Rows.mulOk_of 1000 1000 h1 (by omega) (by omega) (by decide) (by decide)) fun t' k => ⟨.str _, H, I.tok _, ⟨_, rfl⟩, q⟩
/-- all, any of a list of bools -/
theorem kept_of_iter {s : Shared} {h' : Heap} {o : Obj} (hk : ∀ b x, b ∉ [s.heap.objs.size] → (s.heap.push o).get? b = some x → h'.get? b = some x) (b : Addr) (x : Obj) (e : s.heap.get? b = some x) : h'.get? b = some x :=
  hk b x (fun z => by rw [List.mem_singleton.mp z] at e; exact Nat.lt_irrefl _ (Heap.lt_size e)) (Heap.get?_push_of_some _ e)
theorem bools_at : ∀ {bs : List Bool} {us : List Value}, Vals (bs.map V.bl) us → ∀ (i : Nat) (v : Value), us[i]? = some v → ∃ b, bs[i]? = some b ∧ v = .bool b
  | [], _, .nil, i, v, e => by simp at e
  | b :: bs, u :: us, .cons r t, 0, v, e => by
    have e' : u = v := by simpa using e
    subst e'
    exact ⟨b, rfl, r⟩
  | b :: bs, u :: us, .cons r t, i + 1, v, e => bools_at (bs := bs) t i v (by simpa using e)
theorem call_all (hc : X.calm = true) : CallR X (.builtin "all") (fun xs H Q => ∃ (a : Addr) (bs : List Bool), xs = [.ref a] ∧ SqL X.K H a (bs.map V.bl) ∧ Q (.bl (bs.all id)) H) := by
  intro pins s σ H xs us Q I r h
  obtain ⟨a, bs, rfl, hq, q⟩ := h
  obtain ⟨u, rfl, ru⟩ := vals1 r
  cases ru
  obtain ⟨its, rv, p, hz⟩ := I.list hq
  have hl := p.isList
  have hlt : a < s.heap.objs.size := by obtain ⟨_, e, _⟩ := hl; exact Heap.lt_size e
  refine call_all_walk (wpAny_pyIter_list hl ?_)
  refine ⟨s.heap.objs.size, [s.heap.objs.size, a], [s.heap.objs.size], its.toArray.size, _, _, fun i => (bs[i]?).getD true, rfl, Walks.list (A := X.A.in1) (I.ok.hd hc) _ a (Nat.ne_of_lt hlt) its.toArray,
    ⟨⟨_, Heap.get?_push_size _ rfl, rfl, rfl⟩, hl.push _⟩, fun i v s' Q' E' hP hQ => ?_, fun h' tk hk => ?_⟩
  · obtain ⟨b, e, rfl⟩ := bools_at rv i v (by simpa using hP)
    simp only [e, Option.getD_some] at hQ
    exact wpAny_truthy_bool hQ
  · have hlen := rv.length
    have e : ((List.range its.toArray.size).all fun i => (bs[i]?).getD true) = bs.all id := by
      rw [List.size_toArray, ← hlen, List.length_map, Bool.eq_iff_iff, List.all_eq_true, List.all_eq_true]
      constructor
      · intro z b hb
        obtain ⟨i, hi, rfl⟩ := List.getElem_of_mem hb
        have := z i (List.mem_range.mpr hi)
        simpa [hi] using this
      · intro z i hi
        have hi' := List.mem_range.mp hi
        rw [List.getElem?_eq_getElem hi']
        exact z _ (List.getElem_mem hi')
    rw [e]
    exact ⟨.bl _, H, I.kept (kept_of_iter hk), rfl, q⟩
/-- isinstance(x, T), T a built-in type -/
theorem call_isi : CallR X (.builtin "isinstance") (fun xs H Q => ∃ x t n b, xs = [x, .ty n] ∧ TyOf X.K H x t ∧ PySem.W.kitOne X.K t (.type n) = some b ∧ Q (.bl b) H) := by
  intro pins s σ H xs us Q I r h
  obtain ⟨x, t, n, b, rfl, ty, e, q⟩ := h
  obtain ⟨u, w', rfl, rx, rn⟩ := vals2 r
  cases rn
  exact isinst_ok I rx ty e fun tk => ⟨.bl b, H, I.tok tk, rfl, q⟩
/-- sep.join(list of texts) -/
theorem strs_of : ∀ {ys : List Str} {us : List Value}, Vals (ys.map V.str) us → StrsAre us ys
  | [], _, .nil => .nil
  | y :: ys, u :: us, .cons r t => by
    obtain ⟨k, rfl⟩ := r
    exact .cons y k (strs_of t)
theorem mt_join : MtR X "str.join" (fun x xs H Q => ∃ (z : Str) (a : Addr) (ys : List Str), x = .str z ∧ xs = [.ref a] ∧ SqL X.K H a (ys.map V.str) ∧ (ys.map (·.length)).sum + ys.length * z.length ≤ 16777216 ∧ Q (.str (Txt.join z ys)) H) := by
  intro pins s σ H x xs v us Q I rx r h
  obtain ⟨z, a, ys, rfl, rfl, hq, hz, q⟩ := h
  obtain ⟨t, rfl⟩ := rx
  obtain ⟨u, rfl, ru⟩ := vals1 r
  cases ru
  obtain ⟨its, rv, p, _⟩ := I.list hq
  exact join_list p.isList (by simpa using strs_of rv) hz fun t' k => ⟨.str _, H, I.tok _, ⟨_, rfl⟩, q⟩
/-- z[lo:hi] of a text -/
theorem sl_str : SlR X (fun x lo hi H Q => ∃ z, x = .str z ∧ z.length ≤ sizeLine ∧ Q (.str (Txt.slice z lo hi)) H) := by
  intro pins s σ H x v vl vu lo hi sl Q I rx hs pl pu h
  obtain ⟨z, rfl, hz, q⟩ := h
  obtain ⟨t, rfl⟩ := rx
  refine ⟨"str", _, slot_str_getitem.lookup, typeIs_str _ _ _, ?_⟩
  have fin : (Txt.slice z lo hi).length ≤ sizeLine ∧ ∀ t' k, EP X pins σ Q (.str (Txt.slice z lo hi) t') { s with toks := k } := ⟨Nat.le_trans (Txt.slice_le z _ _) hz, fun t' k => ⟨.str _, H, I.tok _, ⟨_, rfl⟩, q⟩⟩
  cases pl with
  | none =>
    cases pu with
    | none => exact wpAny_getItem_str_slice (l := none) (u := none) (st := none) hs rfl (post_val_or_str fin)
    | int j uj => exact wpAny_getItem_str_slice (l := none) (u := some (j, uj)) (st := none) hs rfl (post_val_or_str fin)
  | int i ui =>
    cases pu with
    | none => exact wpAny_getItem_str_slice (l := some (i, ui)) (u := none) (st := none) hs rfl (post_val_or_str fin)
    | int j uj => exact wpAny_getItem_str_slice (l := some (i, ui)) (u := some (j, uj)) (st := none) hs rfl (post_val_or_str fin)
end
end L2

set_option maxHeartbeats 4000000
namespace L2
open PySem PySem.Spec PyProof.Rows PySem.W

/-! ### sorted: what the questions of a small sort come to, keys that differ -/
section
variable {cmp : Nat → Nat → (Bool → Shared → Prop) → Shared → Prop} {lt : Nat → Nat → Bool} {n : Nat} {s : Shared}
/-- places answer by a strict order, nothing is changed -/
structure Ord (cmp : Nat → Nat → (Bool → Shared → Prop) → Shared → Prop) (lt : Nat → Nat → Bool) (n : Nat) (s : Shared) : Prop where
  ask : ∀ i j C, i < n → j < n → i ≠ j → C (lt i j) s → cmp i j C s
  tr : ∀ i j k, lt i j = true → lt j k = true → lt i k = true
  tot : ∀ i j, i < n → j < n → i ≠ j → lt i j = false → lt j i = true
  asym : ∀ i j, lt i j = true → lt j i = false
/-- a rearrangement of 0 .. n - 1 -/
structure Re (n : Nat) (p : Array Nat) : Prop where
  size : p.size = n
  lt : ∀ i, i < n → p.getD i 0 < n
  inj : ∀ i j, i < n → j < n → i ≠ j → p.getD i 0 ≠ p.getD j 0
  perm : p.Perm (List.toArray (List.range n))
theorem Re.of_perm {p : Array Nat} (h : p.Perm (List.toArray (List.range n))) : Re n p := by
  have hs : p.size = n := by have := h.size_eq; simpa using this
  have hl : p.toList.Perm (List.range n) := by simpa using Array.perm_iff_toList_perm.mp h
  have nd : p.toList.Nodup := (List.Perm.nodup_iff hl).mpr List.nodup_range
  have get : ∀ i, (hi : i < n) → p.getD i 0 = p.toList[i]'(by simpa [hs] using hi) := fun i hi => by
    simp [Array.getD, hs, hi]
  refine ⟨hs, fun i hi => ?_, fun i j hi hj hij e => ?_, h⟩
  · have hm : p.getD i 0 ∈ p.toList := by rw [get i hi]; exact List.getElem_mem _
    exact List.mem_range.mp ((List.Perm.mem_iff hl).mp hm)
  · rw [get i hi, get j hj] at e
    exact hij ((List.getElem_inj nd).mp e)
def Up (lt : Nat → Nat → Bool) (p : Array Nat) (m : Nat) : Prop := ∀ i j, i < j → j < m → lt (p.getD i 0) (p.getD j 0) = true
def Dn (lt : Nat → Nat → Bool) (p : Array Nat) (m : Nat) : Prop := ∀ i j, i < j → j < m → lt (p.getD j 0) (p.getD i 0) = true
theorem Up.next {p : Array Nat} {m : Nat} (O : Ord cmp lt n s) (h : Up lt p m) (h1 : 1 ≤ m) (hq : lt (p.getD (m - 1) 0) (p.getD m 0) = true) : Up lt p (m + 1) := fun i j hij hj => by
  by_cases e : j = m
  · subst e
    by_cases e2 : i = j - 1
    · subst e2; exact hq
    · exact O.tr _ _ _ (h i (j - 1) (by omega) (by omega)) hq
  · exact h i j hij (by omega)
theorem Dn.next {p : Array Nat} {m : Nat} (O : Ord cmp lt n s) (h : Dn lt p m) (h1 : 1 ≤ m) (hq : lt (p.getD m 0) (p.getD (m - 1) 0) = true) : Dn lt p (m + 1) := fun i j hij hj => by
  by_cases e : j = m
  · subst e
    by_cases e2 : i = j - 1
    · subst e2; exact hq
    · exact O.tr _ _ _ hq (h i (j - 1) (by omega) (by omega))
  · exact h i j hij (by omega)
theorem asc_ok {p : Array Nat} {Q : Nat → Shared → Prop} (O : Ord cmp lt n s) (r : Re n p) : ∀ (f m : Nat), 1 ≤ m → m + f ≤ n → Up lt p m → (∀ m', m ≤ m' → m' ≤ m + f → Up lt p m' → (m' = m + f ∨ lt (p.getD m' 0) (p.getD (m' - 1) 0) = true) → Q m' s) → (kas_asc p f m).kasWp cmp Q s
  | 0, m, h1, hm, u, q => q m (Nat.le_refl _) (Nat.le_refl _) u (.inl rfl)
  | f + 1, m, h1, hm, u, q => by
    show cmp _ _ _ s
    refine O.ask _ _ _ (r.lt m (by omega)) (r.lt (m - 1) (by omega)) (r.inj _ _ (by omega) (by omega) (by omega)) ?_
    cases c : lt (p.getD m 0) (p.getD (m - 1) 0) with
    | true =>
      show (KasT.ret m).kasWp cmp Q s
      exact q m (Nat.le_refl _) (by omega) u (.inr c)
    | false =>
      show (kas_asc p f (m + 1)).kasWp cmp Q s
      have hq := O.tot _ _ (r.lt m (by omega)) (r.lt (m - 1) (by omega)) (r.inj _ _ (by omega) (by omega) (by omega)) c
      refine asc_ok O r f (m + 1) (by omega) (by omega) (u.next O h1 hq) fun m' a b c d => q m' (by omega) (by omega) c ?_
      rcases d with d | d
      · exact .inl (by omega)
      · exact .inr d
theorem desc_ok {p : Array Nat} {Q : Array Nat × Nat × Nat → Shared → Prop} (O : Ord cmp lt n s) (r : Re n p) : ∀ (f m : Nat), 1 ≤ m → m + f ≤ n → Dn lt p m → (∀ m', m ≤ m' → m' ≤ m + f → Dn lt p m' → Q (p, m', 0) s) → (kas_desc f p m 0).kasWp cmp Q s
  | 0, m, h1, hm, u, q => q m (Nat.le_refl _) (Nat.le_refl _) u
  | f + 1, m, h1, hm, u, q => by
    show cmp _ _ _ s
    refine O.ask _ _ _ (r.lt m (by omega)) (r.lt (m - 1) (by omega)) (r.inj _ _ (by omega) (by omega) (by omega)) ?_
    cases c : lt (p.getD m 0) (p.getD (m - 1) 0) with
    | true =>
      show (kas_desc f p (m + 1) 0).kasWp cmp Q s
      exact desc_ok O r f (m + 1) (by omega) (by omega) (u.next O h1 c) fun m' a b c => q m' (by omega) (by omega) c
    | false =>
      show cmp _ _ _ s
      refine O.ask _ _ _ (r.lt (m - 1) (by omega)) (r.lt m (by omega)) (r.inj _ _ (by omega) (by omega) (by omega)) ?_
      rw [O.tot _ _ (r.lt m (by omega)) (r.lt (m - 1) (by omega)) (r.inj _ _ (by omega) (by omega) (by omega)) c]
      show (KasT.ret (p, m, 0)).kasWp cmp Q s
      exact q m (Nat.le_refl _) (by omega) u
theorem rev_get {p : Array Nat} {m k : Nat} (hm : m ≤ p.size) : (kas_rev p 0 m).getD k 0 = if k < m then p.getD (m - 1 - k) 0 else p.getD k 0 := by
  have h := getElem?_mirror_all (xs := p) (i := 0) (j := m) hm k
  have e1 : ∀ (a : Array Nat) (i : Nat), a.getD i 0 = (a[i]?).getD 0 := fun a i => by rw [Array.getD_eq_getD_getElem?]
  rw [e1]
  unfold kas_rev
  rw [h]
  by_cases hk : k < m
  · rw [if_pos hk]
    simp only [e1]
    rw [if_pos (by omega)]
    congr 2
    omega
  · rw [if_neg hk]
    simp only [e1]
    rw [if_neg (by omega)]
theorem rev_re {p : Array Nat} {m : Nat} (r : Re n p) : Re n (kas_rev p 0 m) := Re.of_perm ((mirror_perm p 0 m _).trans r.perm)
theorem count_ok {Q : Nat × Array Nat → Shared → Prop} {p : Array Nat} (O : Ord cmp lt n s) (r : Re n p) (h2 : 2 ≤ n) (q : ∀ m p', Re n p' → 1 ≤ m → m ≤ n → Up lt p' m → Q (m, p') s) : (kas_count n p).kasWp cmp Q s := by
  unfold kas_count
  rw [KasT.kasWp_bind]
  refine asc_ok O r (n - 1) 1 (Nat.le_refl _) (by omega) (fun i j h1 h2 => by omega) fun m a b u e => ?_
  by_cases hm : (m == n) = true
  · rw [if_pos hm]
    exact q m p r a (by omega) u
  · rw [if_neg hm]
    have hmn : m ≠ n := by simpa using hm
    by_cases h1 : m > 1
    · rw [if_pos h1]
      show cmp _ _ _ s
      refine O.ask _ _ _ (r.lt 0 (by omega)) (r.lt (m - 1) (by omega)) (r.inj _ _ (by omega) (by omega) (by omega)) ?_
      rw [u 0 (m - 1) (by omega) (by omega)]
      show (KasT.ret (m, p)).kasWp cmp Q s
      exact q m p r a (by omega) u
    · rw [if_neg h1]
      have e1 : m = 1 := by omega
      subst e1
      have hd : lt (p.getD 1 0) (p.getD 0 0) = true := by
        rcases e with e | e
        · omega
        · exact e
      unfold kas_descPart
      rw [KasT.kasWp_bind]
      refine desc_ok O r (n - (1 + 1)) (1 + 1) (by omega) (by omega) (fun i j h1 h2 => ?_) fun m' a' b' dn => ?_
      · have : i = 0 := by omega
        have : j = 1 := by omega
        subst_vars
        exact hd
      · show (if (0 : Nat) > 0 then _ else kas_tail3 m' n p).kasWp cmp Q s
        rw [if_neg (by omega)]
        unfold kas_tail3
        rw [KasT.kasWp_bind]
        have up : Up lt (kas_rev p 0 m') m' := fun i j hij hj => by
          rw [rev_get (by rw [r.size]; omega), rev_get (by rw [r.size]; omega), if_pos (by omega), if_pos (by omega)]
          exact dn _ _ (by omega) (by omega)
        refine asc_ok O (rev_re r) (n - m') m' (by omega) (by omega) up fun m2 a2 b2 u2 _ => ?_
        exact q m2 _ (rev_re r) (by omega) (by omega) u2
/-- the place of the k-th among those ahead -/
theorem place_ok {p : Array Nat} {k : Nat} {Q : Nat → Shared → Prop} (O : Ord cmp lt n s) (r : Re n p) (hk : k < n) (u : Up lt p k) (q : ∀ l, l ≤ k → (∀ i, i < l → lt (p.getD i 0) (p.getD k 0) = true) → (∀ i, l ≤ i → i < k → lt (p.getD k 0) (p.getD i 0) = true) → Q l s) :
    ∀ (f l e : Nat), l ≤ e → e ≤ k → e - l ≤ f → (∀ i, i < l → lt (p.getD i 0) (p.getD k 0) = true) → (∀ i, e ≤ i → i < k → lt (p.getD k 0) (p.getD i 0) = true) → (kas_place p k f l e).kasWp cmp Q s
  | 0, l, e, h1, h2, h3, a, b => q l (by omega) a fun i hi hk' => b i (by omega) hk'
  | f + 1, l, e, h1, h2, h3, a, b => by
    show (if l ≥ e then KasT.ret l else _).kasWp cmp Q s
    by_cases h : l ≥ e
    · rw [if_pos h]
      exact q l (by omega) a fun i hi hk' => b i (by omega) hk'
    · rw [if_neg h]
      show cmp _ _ _ s
      have hm : (l + e) / 2 < k := by omega
      refine O.ask _ _ _ (r.lt k hk) (r.lt _ (by omega)) (r.inj _ _ hk (by omega) (by omega)) ?_
      cases c : lt (p.getD k 0) (p.getD ((l + e) / 2) 0) with
      | true =>
        show (kas_place p k f l ((l + e) / 2)).kasWp cmp Q s
        refine place_ok O r hk u q f l _ (by omega) (by omega) (by omega) a fun i hi hk' => ?_
        by_cases ei : i = (l + e) / 2
        · subst ei; exact c
        · exact O.tr _ _ _ c (u _ i (by omega) hk')
      | false =>
        show (kas_place p k f ((l + e) / 2 + 1) e).kasWp cmp Q s
        have c' := O.tot _ _ (r.lt k hk) (r.lt _ (by omega)) (r.inj _ _ hk (by omega) (by omega)) c
        refine place_ok O r hk u q f _ e (by omega) h2 (by omega) (fun i hi => ?_) b
        by_cases ei : i = (l + e) / 2
        · subst ei; exact c'
        · exact O.tr _ _ _ (u i _ (by omega) hm) c'
theorem bub_get {p : Array Nat} {k d j : Nat} (hk : k < p.size) (hd : d ≤ k) : (bubble p k d).getD j 0 = if j < k - d ∨ k < j then p.getD j 0 else if j = k - d then p.getD k 0 else p.getD (j - 1) 0 := by
  have e1 : ∀ (a : Array Nat) (i : Nat), a.getD i 0 = (a[i]?).getD 0 := fun a i => by rw [Array.getD_eq_getD_getElem?]
  have h := getElem?_bubble (xs := p) (src := k) hk d hd j
  rw [e1, h]
  by_cases a : j = k - d
  · rw [if_pos a, if_neg (by omega), if_pos a, e1]
  · rw [if_neg a]
    by_cases b : k - d < j ∧ j ≤ k
    · rw [if_pos b, if_neg (by omega), if_neg a, e1]
    · rw [if_neg b, if_pos (by omega), e1]
theorem bin_ok {Q : Array Nat → Shared → Prop} (O : Ord cmp lt n s) (q : ∀ p, Re n p → Up lt p n → Q p s) : ∀ (f k : Nat) (p : Array Nat), Re n p → 1 ≤ k → k + f = n → Up lt p k → (kas_bin f p k).kasWp cmp Q s
  | 0, k, p, r, h1, hn, u => q p r (by rw [← hn]; exact u)
  | f + 1, k, p, r, h1, hn, u => by
    show ((kas_place p k k 0 k).bind fun l => kas_bin f (bubble p k (k - l)) (k + 1)).kasWp cmp Q s
    rw [KasT.kasWp_bind]
    refine place_ok O r (by omega) u (fun l hl a b => ?_) k 0 k (Nat.zero_le _) (Nat.le_refl _) (by omega) (fun i hi => by omega) (fun i h1 h2 => by omega)
    have hks : k < p.size := by rw [r.size]; omega
    refine bin_ok O q f (k + 1) _ (Re.of_perm ((bubble_perm p k _).trans r.perm)) (by omega) (by omega) fun i j hij hj => ?_
    rw [bub_get hks (by omega), bub_get hks (by omega)]
    have ek : k - (k - l) = l := by omega
    rw [ek]
    by_cases hi : i < l
    · rw [if_pos (.inl hi)]
      by_cases hj2 : j < l
      · rw [if_pos (.inl hj2)]; exact u i j hij (by omega)
      · rw [if_neg (by omega)]
        by_cases hj3 : j = l
        · rw [if_pos hj3]; exact a i hi
        · rw [if_neg hj3]; exact u i (j - 1) (by omega) (by omega)
    · rw [if_neg (by omega)]
      by_cases hi2 : i = l
      · rw [if_pos hi2, if_neg (by omega), if_neg (by omega)]
        exact b (j - 1) (by omega) (by omega)
      · rw [if_neg hi2, if_neg (by omega), if_neg (by omega)]
        exact u (i - 1) (j - 1) (by omega) (by omega)
theorem sort_ok {Q : Array Nat → Shared → Prop} (O : Ord cmp lt n s) (h2 : 2 ≤ n) (q : ∀ p, Re n p → Up lt p n → Q p s) : (kas_sort n).kasWp cmp Q s := by
  unfold kas_sort
  rw [KasT.kasWp_bind]
  refine count_ok O (Re.of_perm (Array.Perm.refl _)) h2 fun m p r h1 hm u => ?_
  show (if m < n then kas_bin (n - max m 1) p (max m 1) else .ret p).kasWp cmp Q s
  have em : max m 1 = m := by omega
  rw [em]
  by_cases h : m < n
  · rw [if_pos h]
    exact bin_ok O q (n - m) m p r h1 (by omega) u
  · rw [if_neg h]
    have : m = n := by omega
    subst this
    exact q p r u
end
end L2

set_option maxHeartbeats 4000000
namespace L2
open PySem PySem.Spec PyProof.Rows PySem.W

/-! ### sorted of a list of none or one -/
theorem list_sort_few {prog : Program} {w : World} {A : Around} {E : Value → Shared → Prop} {st : Shared} {l : Addr} {us : List Value} {ep : Nat} {R : PySem.Fin → Shared → Prop} (at0 : st.heap.get? l = some (seqObj "list" us.toArray ep)) (few : us.length < 2)
    (fin : ∀ hp ep', (∀ b o, b ≠ l → st.heap.get? b = some o → hp.get? b = some o) → hp.get? l = some (seqObj "list" us.toArray ep') → R (.done (.ret .none)) { st with heap := hp }) :
    wpAny (model prog w) A (Builtin.«list.sort» ⟨[.ref l], []⟩) R E st := by
  have sz : us.toArray.size = us.length := by simp
  have lt0 : l < st.heap.objs.size := Heap.lt_size at0
  have line : us.length ≤ sizeLine := by rw [sizeLine_eq]; omega
  rw [list_sort_plain]
  refine wpAny_bind (listItems_at at0 rfl (wpAny_bind (listUpdate_at at0 rfl ?_ (by rw [sz]; exact line) (Nat.zero_le _))))
  have at1 := get?_update_seq at0 (fun _ => (#[] : Array Value))
  refine wpAny_bind (seqEpoch_at at1 rfl (wpAny_bind (wpAny_newTuple ?_ (by show us.length ≤ _; exact line))))
  refine wpAny_bind (wpAny_newList ?_ (Nat.zero_le _))
  refine wpAny_holding ?_
  rw [if_pos (by rw [sz]; exact few), if_pos (by rw [sz]; exact few)]
  show wpAny (model prog w) A _ R E { st with heap := ((st.heap.update l (Obj.mapSeq fun _ => (#[] : Array Value))).push (seqObj "tuple" us.toArray 0)).push (seqObj "list" #[] 0) }
  have at2 : (((st.heap.update l (Obj.mapSeq fun _ => (#[] : Array Value))).push (seqObj "tuple" us.toArray 0)).push (seqObj "list" #[] 0)).get? l = some (seqObj "list" #[] (if ((#[] : Array Value).size == us.toArray.size) = true then ep else ep + 1)) := by
    rw [Heap.get?_push_ne _ _ _ (by rw [size_push', Heap.size_update]; exact nlt1 lt0), Heap.get?_push_ne _ _ _ (by rw [Heap.size_update]; exact nlt lt0)]
    exact at1
  have all : (arrOf (SortSt.mk' general' (us.toArray.zip us.toArray) #[] 7 none)).map (·.2) = us.toArray := by
    show (us.toArray.zip us.toArray).map (·.2) = us.toArray
    apply Array.ext'
    simp [List.map_snd_zip]
  have at3 := get?_update_seq at2 (fun _ => us.toArray)
  refine wpAny_bind (wpAny_pure ?_)
  dsimp only
  rw [StateT.run_pure]
  refine wpAny_bind (wpAny_pure ?_)
  dsimp only
  refine wpAny_bind (seqEpoch_at at2 rfl ?_)
  refine wpAny_bind (listUpdate_at at2 rfl ?_ (Nat.zero_le _) (by rw [all, sz]; omega))
  simp only [bne_self_eq_false, Bool.false_eq_true, if_false]
  rw [all]
  refine wpAny_pure (fin _ _ (fun b o hb e => ?_) at3)
  rw [Heap.get?_update_ne _ _ _ _ hb, Heap.get?_push_ne _ _ _ (by rw [size_push', Heap.size_update]; exact nlt1 (Heap.lt_size e)), Heap.get?_push_ne _ _ _ (by rw [Heap.size_update]; exact nlt (Heap.lt_size e)), Heap.get?_update_ne _ _ _ _ hb]
  exact e
theorem sorted_few {prog : Program} {w : World} {A : Around} {E : Value → Shared → Prop} {st : Shared} {l : Addr} {us : List Value} {Q : Value → Shared → Prop} (at0 : st.heap.IsList l us.toArray) (few : us.length < 2)
    (fin : ∀ hp ep, (∀ b o, st.heap.get? b = some o → hp.get? b = some o) → hp.get? (st.heap.objs.size + 1) = some (seqObj "list" us.toArray ep) → Q (.ref (st.heap.objs.size + 1)) { st with heap := hp }) :
    wpAny (model prog w) A (call (.builtin "sorted") [.ref l]) Q E st := by
  have line : us.length ≤ sizeLine := by rw [sizeLine_eq]; omega
  refine Calls.call_function_entry kind_sorted plain_sorted entry_sorted (args_sorted1 _) ?_
  unfold Builtin.«sorted»
  refine wpAny_bind (m := checkCount "sorted" 1 1 _) (wpAny_pure (wpAny_bind (collect_list at0 ?_ line)))
  refine wpAny_bind (wpAny_newList ?_ line)
  have z1 : ((st.heap.push (seqObj "list" #[] 0)).update st.heap.objs.size (Obj.mapSeq (· ++ us.toArray))).objs.size = st.heap.objs.size + 1 := by
    rw [Heap.size_update, size_push']
  have at1 : (((st.heap.push (seqObj "list" #[] 0)).update st.heap.objs.size (Obj.mapSeq (· ++ us.toArray))).push (seqObj "list" us.toArray 0)).get? (st.heap.objs.size + 1) = some (seqObj "list" us.toArray 0) := by
    rw [← z1]; exact Heap.get?_push_size _ rfl
  have kp : ∀ b o, st.heap.get? b = some o → (((st.heap.push (seqObj "list" #[] 0)).update st.heap.objs.size (Obj.mapSeq (· ++ us.toArray))).push (seqObj "list" us.toArray 0)).get? b = some o := fun b o e => by
    rw [Heap.get?_push_ne _ _ _ (by rw [z1]; exact nlt1 (Heap.lt_size e)), Heap.get?_update_ne _ _ _ _ (nlt (Heap.lt_size e)), Heap.get?_push_ne _ _ _ (nlt (Heap.lt_size e))]
    exact e
  show wpAny _ _ _ _ _ { st with heap := ((st.heap.push (seqObj "list" #[] 0)).update st.heap.objs.size (Obj.mapSeq (· ++ us.toArray))).push (seqObj "list" us.toArray 0) }
  rw [z1]
  refine wpAny_bind (wpAny_holding (wpAny_call_entry slot_list_sort ⟨_, at1, rfl⟩ entry_list_sort (list_sort_few (st := { st with heap := ((st.heap.push (seqObj "list" #[] 0)).update st.heap.objs.size (Obj.mapSeq (· ++ us.toArray))).push (seqObj "list" us.toArray 0) }) at1 few fun hp ep k2 e2 => ⟨_, rfl, ?_⟩) (args_list_sort _)))
  exact wpAny_pure ⟨_, rfl, fin hp ep (fun b o e => k2 b o (nlt1 (Heap.lt_size e)) (kp b o e)) e2⟩
end L2

set_option maxHeartbeats 400000
namespace L2
open PySem PySem.Spec PyProof.Rows PySem.W

theorem ns_one {h : Heap} {a : Addr} {m m' : Str → Option Value} (x : h.Ns a m) (y : h.Ns a m') : m = m' := by
  obtain ⟨o, es, ep, e, d, _, f⟩ := x
  obtain ⟨o', es', ep', e', d', _, f'⟩ := y
  rw [e] at e'
  cases e'
  rw [d] at d'
  cases d'
  funext z
  rw [← f z, f' z]
theorem lst_tot {a b : List Nat} (h : ¬ a < b) (h2 : a ≠ b) : b < a := by
  by_cases h3 : b < a
  · exact h3
  · exact absurd (List.le_antisymm (List.not_lt.mp h3) (List.not_lt.mp h)) h2
theorem str_ext {a b : Str} (h : a.cps.toList = b.cps.toList) : a = b := by
  cases a
  cases b
  congr 1
  exact Array.ext' h
theorem ObjOk.live {P : Program} {w : World} {H : Hp} {h : Heap} {a : Addr} {o : HO} (x : ObjOk P w H h a o) : ∃ ob, h.get? a = some ob := by
  cases o with
  | lst xs => obtain ⟨_, _, _, _, e⟩ := x; exact ⟨_, e⟩
  | tup xs => obtain ⟨_, _, _, ⟨ob, e, _⟩, _⟩ := x; exact ⟨_, e⟩
  | dK kvs => obtain ⟨_, _, _, _, ob, _, _, e, _⟩ := x; exact ⟨_, e⟩
  | dT kvs => obtain ⟨_, _, _, _, ob, _, _, e, _⟩ := x; exact ⟨_, e⟩
  | set S n => obtain ⟨ob, _, _, _, e, _⟩ := x; exact ⟨_, e⟩
  | ins C dx fs => obtain ⟨_, _, _, e, _⟩ := x; exact ⟨_, e⟩
  | own y => obtain ⟨_, e⟩ := x; exact ⟨_, e⟩
  | xd fs => obtain ⟨_, ⟨_, _, _, e, _⟩, _⟩ := x; exact ⟨_, e⟩
  | rng lo hi => obtain ⟨_, _, _, e⟩ := x; exact ⟨_, e⟩
  | frz ob u => obtain ⟨e, _⟩ := x; exact ⟨_, e⟩
  | tbl ps => exact ⟨_, (show h.get? a = some _ from x)⟩
  | met f y => exact ⟨_, (show h.get? a = some _ from x)⟩
  | ext φ => obtain ⟨_, ⟨_, e⟩, _⟩ := x; exact ⟨_, e⟩
section
variable {X : Cx} {pins : List (Addr × Obj)} {σ : St} {H : Hp} {s : Shared}
/-- behind a rule of the ledger: all is kept, a new list is tracked -/
theorem Inv.newList {D : Addr} {ys : List V} {its : List Value} {c : Nat} {h' : Heap} {m : Str → Option Value} (I : Inv X pins σ H s) (hm : s.heap.Ns X.env.locals m) (hn : H D = none) (hG : s.heap.get? D = none) (rv : Vals ys its) (hz : ys.length ≤ sizeLine)
    (F : h'.Ns X.env.locals m) (k : ∀ b o, b ≠ X.env.locals → s.heap.get? b = some o → h'.get? b = some o) (e : h'.get? D = some { cls := .type "list", data := .seq its.toArray c }) : Inv X pins σ (upd H D (.lst ys)) { s with heap := h' } := by
  have nl : ∀ b v, H b = some v → b ≠ X.env.locals := fun b v q z => by rw [z, I.free] at q; cases q
  refine I.step (g' := s.gens) (d' := s.drawn) (t' := s.toks) (ch := []) (fun b hb => by cases hb) (fun b o hL _ _ q _ => k b o hL q) (fun b o hL _ _ q _ => ⟨o.slots, k b o hL q⟩) (fun b o _ q n => ?_) (fun b o _ q => ?_)
    (fun b xs q => by rw [upd_ne (ne_of_none q hn)]; exact q) (fun b o v q => by rw [upd_ne (ne_of_none q hn)]; exact q) (fun b ps q => ⟨#[], by rw [upd_ne (ne_of_none q hn), q]; simp⟩) (fun m' hm' => by rw [ns_one hm' hm]; exact F) (fun b v q => ?_) I.bare
  · rw [upd_ne (fun z => by rw [z, hG] at q; cases q)]; exact n
  · by_cases hb : b = X.env.locals
    · subst hb
      obtain ⟨o', _, _, q', _⟩ := F
      exact ⟨o', q'⟩
    · exact ⟨o, k b o hb q⟩
  · by_cases hb : b = D
    · subst hb
      rw [upd_same] at q
      cases q
      exact ⟨hz, its, c, rv, e⟩
    · rw [upd_ne hb] at q
      refine (I.hok b v q).stay (fun c w' hc q' => ?_) (fun c q' => by rw [upd_ne (ne_of_none q' hn)]; exact q') fun c xs q' => by rw [upd_ne (ne_of_none q' hn)]; exact q'
      rcases hc with z | z
      · subst z; exact k c w' (nl c v q) q'
      · exact k c w' (nl c _ z) q'
/-- a key (a text) and its tuple -/
abbrev TK := Addr × Str × List V
def tkLt (p q : TK) : Prop := p.2.1.cps.toList < q.2.1.cps.toList
theorem refs_of (ps : List TK) : ∀ (us : List Value), Vals (ps.map fun p => V.ref p.1) us → us = ps.map fun p => Value.ref p.1 := by
  induction ps with
  | nil =>
    intro us r
    cases r
    rfl
  | cons p ps ih =>
    intro us r
    rw [List.map_cons] at r ⊢
    cases r with
    | cons r t =>
      rw [ih _ t, show _ = Value.ref p.1 from r]
theorem vals_refs (ps : List TK) : Vals (ps.map fun p => V.ref p.1) (ps.map fun p => Value.ref p.1) := by
  induction ps with
  | nil => exact .nil
  | cons p ps ih => exact .cons rfl ih
theorem tup_at (I : Inv X pins σ H s) {a : Addr} {x : Str} {r : List V} (h : H a = some (.tup (.str x :: r))) : ∃ (o : Obj) (us : List Value) (n : Nat) (t : Tok), s.heap.get? a = some o ∧ o.cls = .type "tuple" ∧ o.data = .seq (Value.str x t :: us).toArray n := by
  obtain ⟨_, its, rv, ⟨o, e, c, n, d⟩, _⟩ := (show ObjOk X.prog X.w H s.heap a (.tup (.str x :: r)) from I.hok a _ h)
  cases rv with
  | cons r1 r2 =>
    obtain ⟨t, rfl⟩ := r1
    exact ⟨o, _, n, t, e, c, d⟩
theorem pick_perm {n : Nat} {p : Array Nat} {α : Type} {d : α} {ps : List α} (hn : ps.length = n) (r : Re n p) : (p.toList.map fun i => ps.getD i d).Perm ps := by
  have hl : p.toList.Perm (List.range n) := by simpa using Array.perm_iff_toList_perm.mp r.perm
  refine (hl.map _).trans ?_
  have e : (List.range n).map (fun i => ps.getD i d) = ps := by
    apply List.ext_getElem?
    intro i
    rw [List.getElem?_map]
    by_cases hi : i < n
    · rw [List.getElem?_range hi]
      simp [List.getD, show i < ps.length by omega]
    · rw [List.getElem?_eq_none (by simpa using hi), List.getElem?_eq_none (by omega)]
      rfl
  rw [e]
theorem pick_pairwise {n : Nat} {p : Array Nat} {α : Type} {d : α} {ps : List α} {R : α → α → Prop} {lt : Nat → Nat → Bool} (hlt : ∀ i j, i < n → j < n → lt i j = true → R (ps.getD i d) (ps.getD j d)) (r : Re n p) (u : Up lt p n) : (p.toList.map fun i => ps.getD i d).Pairwise R := by
  rw [List.pairwise_iff_getElem]
  intro i j hi hj hij
  rw [List.length_map, Array.length_toList, r.size] at hi hj
  have get : ∀ k (hk : k < n) h, (p.toList.map fun i => ps.getD i d)[k]'h = ps.getD (p.getD k 0) d := fun k hk h => by
    rw [List.getElem_map]
    congr 1
    simp [Array.getD, r.size, hk]
  rw [get i hi, get j hj]
  exact hlt _ _ (r.lt i hi) (r.lt j hj) (u i j hij hj)
/-- sorted of a list of tuples that begin with texts, all unlike -/
theorem call_sortedT : CallR X (.builtin "sorted") (fun xs H Q => ∃ (a : Addr) (ps : List TK), xs = [.ref a] ∧ SqL X.K H a (ps.map fun p => V.ref p.1) ∧ (∀ p ∈ ps, H p.1 = some (.tup (.str p.2.1 :: p.2.2))) ∧ (ps.map (·.2.1)).Nodup ∧ ps.length < 64 ∧
    ∀ (qs : List TK) (l : Addr), qs.Perm ps → qs.Pairwise tkLt → H l = none → Q (.ref l) (upd H l (.lst (qs.map fun p => V.ref p.1)))) := by
  intro pins s σ H xs us Q I r h
  obtain ⟨a, ps, rfl, hq, ht, nd, h64, q⟩ := h
  obtain ⟨u, rfl, ru⟩ := vals1 r
  cases ru
  obtain ⟨its, rv, pl, hz⟩ := I.list hq
  have ei := refs_of ps its rv
  subst ei
  have hl := pl.isList
  obtain ⟨m, hm, _⟩ := I.loc
  by_cases few : ps.length < 2
  · refine sorted_few hl (by simpa using few) fun hp ep k e => ?_
    have I2 := I.newList (D := s.heap.objs.size + 1) (ys := ps.map fun p => V.ref p.1) hm (I.hok.fresh (Nat.le_succ _)) (Heap.get?_none_of_le (Nat.le_succ _)) (vals_refs ps) hz (hm.keeps k) (fun b o _ z => k b o z) e
    refine ⟨.ref _, _, I2, rfl, q ps _ (List.Perm.refl _) ?_ (I.hok.fresh (Nat.le_succ _))⟩
    match ps, few with
    | [], _ => exact .nil
    | [p], _ => exact List.pairwise_singleton _ _
  · have hlen : (ps.map fun p => Value.ref p.1).length = ps.length := List.length_map _
    have F0 : Fr (Att.noObjs s.heap) X.env.locals s.heap m := Att.fr_all hm
    have N0 : News (Att.noObjs s.heap) X.env.locals s.heap (allNews (Att.noObjs s.heap) s.heap X.env.locals) := news_all
    refine kat_sorted F0 N0 hl (by rw [hlen]; omega) (by rw [hlen]; exact h64) fun D e1 h' F' N' lD => ?_
    have keep : ∀ (g : Heap) (x : Obj), News (Att.noObjs s.heap) X.env.locals g ((D, x) :: allNews (Att.noObjs s.heap) s.heap X.env.locals) → ∀ b o, b ≠ X.env.locals → s.heap.get? b = some o → g.get? b = some o := fun g x N b o hb e =>
      (N (b, o) (List.mem_cons_of_mem _ (mem_allNews hb (Att.noObjs_get _ _) e))).1
    have kp := keep h' _ N'
    have atv : ∀ i, i < ps.length → (ps.map fun p => Value.ref p.1).getD i .none = Value.ref (ps.getD i (0, default, [])).1 := fun i hi => by
      simp [List.getD, hi]
    have item : ∀ i, i < ps.length → ∃ (o : Obj) (us : List Value) (n : Nat) (t : Tok), h'.get? (ps.getD i (0, default, [])).1 = some o ∧ o.cls = .type "tuple" ∧ o.data = .seq (Value.str (ps.getD i (0, default, [])).2.1 t :: us).toArray n := fun i hi => by
      have hm' : ps.getD i (0, default, []) ∈ ps := by
        have e : ps.getD i (0, default, []) = ps[i] := by simp [List.getD, hi]
        rw [e]; exact List.getElem_mem hi
      obtain ⟨o, us, n, t, e, c, d⟩ := tup_at I (ht _ hm')
      exact ⟨o, us, n, t, kp _ o (fun z => by have := ht _ hm'; rw [z, I.free] at this; cases this) e, c, d⟩
    have firsts : ∀ (qs : List TK), (∀ p ∈ qs, p ∈ ps) → ∃ fs : List Value, KatTups h' (qs.map fun p => Value.ref p.1) fs ∧ fs.length = qs.length ∧ ∀ v ∈ fs, ∃ x t, v = Value.str x t := by
      intro qs
      induction qs with
      | nil => intro _; exact ⟨[], KatTups.nil, rfl, by simp⟩
      | cons p qs ih =>
        intro hs
        obtain ⟨fs, t1, t2, t3⟩ := ih fun x hx => hs x (List.mem_cons_of_mem _ hx)
        have hp := hs p List.mem_cons_self
        obtain ⟨o, us, n, t, e, c, d⟩ := tup_at I (ht _ hp)
        refine ⟨Value.str p.2.1 t :: fs, KatTups.cons (kp _ o (fun z => by have := ht _ hp; rw [z, I.free] at this; cases this) e) c d (by simp) t1, by simp [t2], fun v hv => ?_⟩
        rcases List.mem_cons.mp hv with rfl | hv
        · exact ⟨_, _, rfl⟩
        · exact t3 v hv
    obtain ⟨fs, t1, t2, t3⟩ := firsts ps fun p hp => hp
    refine kat_kind (T := .type "str") (s := { s with heap := h' }) t1 (by rw [t2]; omega) (fun v hv => ?_) (by decide) ?_
    · obtain ⟨x, t, rfl⟩ := t3 v hv
      exact Looks.of_pure rfl
    rw [hlen]
    have O : Ord (kas_ask X.prog X.w X.A.in1.in1 (tuples' (Value.type "str" != Value.type "tuple")) (ps.map fun p => Value.ref p.1)) (fun i j => decide ((ps.getD i (0, default, [])).2.1.cps.toList < (ps.getD j (0, default, [])).2.1.cps.toList)) ps.length { s with heap := h' } := by
      have unlike : ∀ i j, i < ps.length → j < ps.length → i ≠ j → (ps.getD i (0, default, [])).2.1 ≠ (ps.getD j (0, default, [])).2.1 := fun i j hi hj hij e => by
        have ei : ps.getD i (0, default, []) = ps[i] := by simp [List.getD, hi]
        have ej : ps.getD j (0, default, []) = ps[j] := by simp [List.getD, hj]
        rw [ei, ej] at e
        exact hij ((List.getElem_inj (h₀ := by simpa using hi) (h₁ := by simpa using hj) nd).mp (by simpa using e))
      refine ⟨fun i j C hi hj hij hC => ?_, fun i j k h1 h2 => ?_, fun i j hi hj hij h1 => ?_, fun i j h1 => ?_⟩
      · show wpAny _ _ (keyLt' _ _ _) C _ _
        rw [atv i hi, atv j hj]
        obtain ⟨o, us, n, t, e, c, d⟩ := item i hi
        obtain ⟨o2, us2, n2, t2', e2, c2, d2⟩ := item j hj
        refine kat_lt (s := { s with heap := h' }) e d e2 d2 ?_
        show KatLex _ _ _ _ _ _ ((Value.str _ t, Value.str _ t2') :: _) 0 _
        refine kat_cons (wpAny_eqBool_str ?_)
        rw [decide_eq_false (unlike i j hi hj hij)]
        exact kat_no (oneLt_str hC)
      · exact decide_eq_true (List.lt_trans (of_decide_eq_true h1) (of_decide_eq_true h2))
      · exact decide_eq_true (lst_tot (of_decide_eq_false h1) fun e => unlike i j hi hj hij (str_ext e))
      · exact decide_eq_false (List.lt_asymm (of_decide_eq_true h1))
    refine sort_ok O (by omega) fun p re up => ?_
    have outs : (p.toList.map fun i => (ps.map fun p => Value.ref p.1).getD i .none) = (p.toList.map fun i => ps.getD i (0, default, [])).map fun p => Value.ref p.1 := by
      rw [List.map_map]
      refine List.map_congr_left fun i hi => ?_
      have hl2 : p.toList.Perm (List.range ps.length) := by simpa using Array.perm_iff_toList_perm.mp re.perm
      exact atv i (List.mem_range.mp ((List.Perm.mem_iff hl2).mp hi))
    rw [outs]
    have nL : D ≠ X.env.locals := (N' (D, _) List.mem_cons_self).2.1
    have hG : s.heap.get? D = none := by
      cases e : s.heap.get? D with
      | none => rfl
      | some o => exact absurd (lD (D, o) (mem_allNews nL (Att.noObjs_get _ _) e)) (Nat.lt_irrefl _)
    have hn : H D = none := by
      cases e : H D with
      | none => rfl
      | some u =>
        obtain ⟨o, e'⟩ := (I.hok D u e).live
        rw [hG] at e'
        cases e'
    refine KasFin.intro (news := (D, seqObj "list" #[] e1) :: allNews (Att.noObjs s.heap) s.heap X.env.locals) (g := fun o' => (D, o') :: allNews (Att.noObjs s.heap) s.heap X.env.locals) F' N' (.head fun q hq => nlt (lD q hq)) fun h2 c F2 N2 => ?_
    have pq := pick_perm (d := (0, default, [])) rfl re
    have I2 := I.newList (D := D) (ys := (p.toList.map fun i => ps.getD i (0, default, [])).map fun p => V.ref p.1) hm hn hG (vals_refs _) (by rw [List.length_map, pq.length_eq]; simpa using hz) F2.ns (keep h2 _ N2) (N2 (D, _) List.mem_cons_self).1
    exact ⟨.ref D, _, I2, rfl, q _ D pq (pick_pairwise (R := tkLt) (fun i j _ _ h => (of_decide_eq_true h : (ps.getD i (0, default, [])).2.1.cps.toList < (ps.getD j (0, default, [])).2.1.cps.toList)) re up) hn⟩
end
end L2

set_option maxHeartbeats 1000000
namespace L2
open PySem PySem.Spec PyProof.Rows

/-! ### a comprehension's scope, looked at by a program -/
def lcOk (N : List Str) (sc scope : Scope) (ix : List Nat) : Bool :=
  decide (scope.kind = .function) && scope.names.all (fun y => decide (y.2 ≠ .cell)) && scope.names.all (fun y => decide (y.2 = .local → scope.names.lookup y.1 = some .local)) &&
  scope.names.all (fun y => decide (y.2 = .free → sc.names.lookup y.1 = some .cell ∨ sc.names.lookup y.1 = some .free)) &&
  ix.all (fun j => decide (j < N.length) && match N[j]? with | some x => scope.names.any (fun y => decide (y.1 = x) && decide (y.2 = .free)) && decide (scope.names.lookup x = some .free) | none => false)
theorem LcScope.of {N : List Str} {sc scope : Scope} {own : List Str} {ix : List Nat} (h : lcOk N sc scope ix = true) : LcScope N sc scope own ix := by
  unfold lcOk at h
  simp only [Bool.and_eq_true, decide_eq_true_eq, List.all_eq_true] at h
  obtain ⟨⟨⟨⟨h1, h2⟩, h3⟩, h4⟩, h5⟩ := h
  refine ⟨h1, h2, h3, h4, fun j hj x hx => ?_, fun j hj => (h5 j hj).1⟩
  have := (h5 j hj).2
  rw [hx] at this
  simp only [Bool.and_eq_true, decide_eq_true_eq, List.any_eq_true] at this
  obtain ⟨⟨⟨n, k⟩, hy, e1, e2⟩, e3⟩ := this
  have e1' : n = x := e1
  have e2' : k = .free := e2
  subst e1' e2'
  exact ⟨hy, e3⟩
theorem lc_nd {l N : List Str} (h : l.Nodup) (e : N = l) : N.Nodup := by rw [e]; exact h

/-! ### a def of the text by its name -/
structure Def (P : Program) (w : World) (K : PySem.W.Frag) (mg : Str → Option Value) (base : Heap) (k : Nat) (x : Str) (ps : List Str) (sp : Sp) : Prop where
  ex : ∃ f fd, FnOk P w K mg base CX0 k f fd ps sp ∧ Binds K fd ps [] ∧ PySem.W.keepIn K (.ref f) = true ∧ mg x = some (.ref f)
theorem Def.up {P : Program} {w : World} {K : PySem.W.Frag} {mg : Str → Option Value} {base : Heap} {j k : Nat} {x : Str} {ps : List Str} {sp : Sp} (d : Def P w K mg base j x ps sp) (h : j ≤ k) : Def P w K mg base k x ps sp :=
  let ⟨f, fd, F, b, kp, m⟩ := d.ex
  ⟨f, fd, F.mono h, b, kp, m⟩
theorem pe_def {X : Cx} {k : Nat} {x : Str} {ps : List Str} {sp : Sp} {p pos : Pos} {e : Expr} {es : List Expr} {t : TA} (d : Def X.prog X.w X.K X.mg X.base k x ps sp) (hr : Room k X.A) (hg : Gl X x) (ha : PA X (e :: es) t) (hdb : (x == ("__debug__" : Str)) = false := by decide)
    (he : starEach (e :: es) X.env = (false, eval e X.env) :: starEach es X.env := by rfl) (hpl : (backTo pos (starEach es X.env)).any (·.1) = false := by rfl) : PE X (.Call (.Name x p) (e :: es) [] pos) (tCall sp [] E0 t) := by
  obtain ⟨f, fd, F, b, kp, m⟩ := d.ex
  exact pe_call F hr hg m kp b .nil pass0 ha hdb he hpl

/-! ### deep values: tuples and lists of plain ones -/
inductive Dv where
  | non | bl (b : Bool) | int (i : Int) | str (x : Str) | tup (xs : List Dv) | lst (xs : List Dv) | dct
mutual
def Rep (H : Hp) : Dv → V → Prop
  | .non, v => v = .non
  | .bl b, v => v = .bl b
  | .int i, v => v = .int i
  | .str x, v => v = .str x
  | .tup ds, v => ∃ a vs, v = .ref a ∧ H a = some (.tup vs) ∧ Reps H ds vs
  | .lst ds, v => ∃ a vs, v = .ref a ∧ H a = some (.lst vs) ∧ Reps H ds vs
  | .dct, v => ∃ a, v = .ref a ∧ H a = some (.dK [])
def Reps (H : Hp) : List Dv → List V → Prop
  | [], vs => vs = []
  | d :: ds, vs => ∃ v r, vs = v :: r ∧ Rep H d v ∧ Reps H ds r
end
mutual
theorem Rep.mono {H H' : Hp} (s : Same H H') : ∀ {d : Dv} {v : V}, Rep H d v → Rep H' d v
  | .non, _, h => by simpa only [Rep] using h
  | .bl b, _, h => by simpa only [Rep] using h
  | .int i, _, h => by simpa only [Rep] using h
  | .str x, _, h => by simpa only [Rep] using h
  | .tup ds, _, h => by
    simp only [Rep] at h ⊢
    obtain ⟨a, vs, e, h1, h2⟩ := h
    exact ⟨a, vs, e, s _ _ h1, Reps.mono s h2⟩
  | .lst ds, _, h => by
    simp only [Rep] at h ⊢
    obtain ⟨a, vs, e, h1, h2⟩ := h
    exact ⟨a, vs, e, s _ _ h1, Reps.mono s h2⟩
  | .dct, _, h => by
    simp only [Rep] at h ⊢
    obtain ⟨a, e, h1⟩ := h
    exact ⟨a, e, s _ _ h1⟩
theorem Reps.mono {H H' : Hp} (s : Same H H') : ∀ {ds : List Dv} {vs : List V}, Reps H ds vs → Reps H' ds vs
  | [], _, h => by simpa only [Reps] using h
  | d :: ds, _, h => by
    simp only [Reps] at h ⊢
    obtain ⟨v, r, e, h1, h2⟩ := h
    exact ⟨v, r, e, Rep.mono s h1, Reps.mono s h2⟩
end
theorem Reps.length {H : Hp} : ∀ {ds : List Dv} {vs : List V}, Reps H ds vs → vs.length = ds.length
  | [], _, h => by simp only [Reps] at h; subst h; rfl
  | d :: ds, _, h => by
    simp only [Reps] at h
    obtain ⟨v, r, e, h1, h2⟩ := h
    subst e
    rw [List.length_cons, List.length_cons, Reps.length h2]
theorem Reps.get {H : Hp} : ∀ {ds : List Dv} {vs : List V}, Reps H ds vs → ∀ {i : Nat} {v : V}, vs[i]? = some v → ∃ d, ds[i]? = some d ∧ Rep H d v
  | [], _, h, i, v, e => by simp only [Reps] at h; subst h; simp at e
  | d :: ds, _, h, i, v, e => by
    simp only [Reps] at h
    obtain ⟨v', r, e', h1, h2⟩ := h
    subst e'
    cases i with
    | zero => exact ⟨d, rfl, by have : v' = v := by simpa using e
                                subst this; exact h1⟩
    | succ i => obtain ⟨d', e1, e2⟩ := Reps.get h2 (i := i) (v := v) (by simpa using e); exact ⟨d', by simpa using e1, e2⟩
/-- the name of its type -/
def Dv.tn : Dv → String
  | .non => "NoneType" | .bl _ => "bool" | .int _ => "int" | .str _ => "str" | .tup _ => "tuple" | .lst _ => "list" | .dct => "dict"
/-- isinstance against int, bool, str, tuple, list -/
def isT (d : Dv) (n : String) : Bool := d.tn == n || (d.tn == "bool" && n == "int")
theorem kit_int (K : PySem.W.Frag) (d : Dv) : PySem.W.kitOne K (.type d.tn) (.type "int") = some (isT d "int") := by
  unfold PySem.W.kitOne PySem.W.kitCls
  cases d <;> kernel_rfl
theorem kit_bool (K : PySem.W.Frag) (d : Dv) : PySem.W.kitOne K (.type d.tn) (.type "bool") = some (isT d "bool") := by
  unfold PySem.W.kitOne PySem.W.kitCls
  cases d <;> kernel_rfl
end L2

set_option maxHeartbeats 1000000
namespace L2
open PySem PySem.Spec PyProof.Rows
section
variable {k : Nat} {ix : List Nat} {g : TG} {tt : TT} {te : TE} {σ : St} {H1 : Hp} {Q : List V → Hp → Prop}
theorem turn_name {i : Nat} {x : V} {ys : List V} {H : Hp} {N : List V → Hp → Prop} (h : te ((capSt k ix σ).set i (some x)) H fun y H4 => ys.length < sizeLine ∧ N (ys ++ [y]) H4) : lcTurn k ix (gName i) tYes te σ x ys H N := by
  exact iteT (B := N ys H) h
theorem turn_two {i j : Nat} {K : PySem.W.Frag} {a : Addr} {x y : V} {ys : List V} {H : Hp} {N : List V → Hp → Prop} (ha : H a = some (.tup [x, y])) (h : te (((capSt k ix σ).set i (some x)).set j (some y)) H fun y H4 => ys.length < sizeLine ∧ N (ys ++ [y]) H4) :
    lcTurn k ix (gTup K 2 (gCons (gName i) (gCons (gName j) gNil))) tYes te σ (.ref a) ys H N := by
  refine ⟨a, _, rfl, SqT.of ha, rfl, _, _, rfl, _, _, rfl, rfl, ?_⟩
  exact iteT (B := N ys H) h
/-- over a tuple that stays: Pv by the turn -/
theorem for_itf {f : Nat → V} {n : Nat} {g : TG} {tb : TS} {D : Ends} {σ : St} {H : Hp} (Pv : Nat → St → Hp → Prop) (h0 : Pv 0 σ H)
    (hs : ∀ i σ H, i < n → Pv i σ H → g (f i) σ H fun σ2 H2 => tb { D with nx := Pv (i + 1), ct := Pv (i + 1), bk := D.nx } σ2 H2) (hd : ∀ σ H, Pv n σ H → D.nx σ H) :
    ∃ W : Nat → Nat → St → Hp → Prop, (∃ m, W 0 m σ H) ∧ ∀ i m σ H, W i m σ H →
      ((Itf f n).stop i H ∧ D.nx σ H) ∨ ((Itf f n).go i H ∧ ∃ N : St → Hp → Prop, (∀ σ' H', N σ' H' → ∃ m', m' < m ∧ W (i + 1) m' σ' H') ∧ ∀ x H', (Itf f n).yld i H x H' → g x σ H' fun σ2 H2 => tb { D with nx := N, ct := N, bk := D.nx } σ2 H2) := by
  refine ⟨fun i m σ H => m = n - i ∧ i ≤ n ∧ Pv i σ H, ⟨n, by simp, Nat.zero_le _, h0⟩, ?_⟩
  rintro i m σ H ⟨rfl, hi, p⟩
  by_cases hlt : i < n
  · refine .inr ⟨hlt, Pv (i + 1), fun σ' H' p' => ⟨n - (i + 1), by omega, rfl, hlt, p'⟩, fun x H' y => ?_⟩
    obtain ⟨e, y⟩ := y
    subst e y
    exact hs i σ _ hlt p
  · have e : i = n := by omega
    subst e
    exact .inl ⟨rfl, hd σ H p⟩
/-- over enumerate(list) -/
theorem for_enum {K : PySem.W.Frag} {a : Addr} {xs : List V} {g : TG} {tb : TS} {D : Ends} {σ : St} {H : Hp} (Pv : Nat → St → Hp → Prop) (h0 : Pv 0 σ H) (hl : ∀ i σ H, i ≤ xs.length → Pv i σ H → SqL K H a xs)
    (hs : ∀ i x σ H p, xs[i]? = some x → Pv i σ H → H p = none → g (.ref p) σ (upd H p (.tup [.int i, x])) fun σ2 H2 => tb { D with nx := Pv (i + 1), ct := Pv (i + 1), bk := D.nx } σ2 H2) (hd : ∀ σ H, Pv xs.length σ H → D.nx σ H) :
    ∃ W : Nat → Nat → St → Hp → Prop, (∃ m, W 0 m σ H) ∧ ∀ i m σ H, W i m σ H →
      ((Ite K a).stop i H ∧ D.nx σ H) ∨ ((Ite K a).go i H ∧ ∃ N : St → Hp → Prop, (∀ σ' H', N σ' H' → ∃ m', m' < m ∧ W (i + 1) m' σ' H') ∧ ∀ x H', (Ite K a).yld i H x H' → g x σ H' fun σ2 H2 => tb { D with nx := N, ct := N, bk := D.nx } σ2 H2) := by
  refine ⟨fun i m σ H => m = xs.length - i ∧ i ≤ xs.length ∧ Pv i σ H, ⟨xs.length, by simp, Nat.zero_le _, h0⟩, ?_⟩
  rintro i m σ H ⟨rfl, hi, p⟩
  have q := hl i σ H hi p
  by_cases hlt : i < xs.length
  · refine .inr ⟨⟨xs, xs[i], q, by simp [hlt]⟩, Pv (i + 1), fun σ' H' p' => ⟨xs.length - (i + 1), by omega, rfl, hlt, p'⟩, fun x H' y => ?_⟩
    obtain ⟨b, y, hb, e1, e2, hy⟩ := y
    subst e1 e2
    exact hs i y σ H b (hy xs q) p hb
  · have e : i = xs.length := by omega
    subst e
    exact .inl ⟨⟨xs, q, Nat.le_refl _⟩, hd σ H p⟩
end
/- all texts within are short -/
mutual
def Dv.small : Dv → Bool
  | .str x => decide (x.cps.size ≤ 1000)
  | .tup xs => smalls xs && decide (xs.length ≤ 1000)
  | .lst xs => smalls xs && decide (xs.length ≤ 1000)
  | _ => true
def smalls : List Dv → Bool
  | [] => true
  | d :: ds => d.small && smalls ds
end
theorem same_new {H : Hp} {p : Addr} (h : H p = none) (o : HO) : Same H (upd H p o) := fun b u q => by rw [upd_ne (ne_of_none q h)]; exact q
end L2
namespace L2
open PySem PySem.Spec PyProof.Rows
section
variable {X : Cx}
theorem ix_listK (K : PySem.W.Frag) (h : X.K = K) : IxR X (rIxL K) := by subst h; exact ix_list
theorem isiK (K : PySem.W.Frag) (h : X.K = K) : CallR X (.builtin "isinstance") (fun xs H Q => ∃ x t n b, xs = [x, .ty n] ∧ TyOf K H x t ∧ PySem.W.kitOne K t (.type n) = some b ∧ Q (.bl b) H) := by subst h; exact call_isi
end
end L2

set_option maxHeartbeats 1000000
namespace L2
open PySem PySem.Spec PyProof.Rows
section
variable {X : Cx}
/-- t + u of tuples, either may be empty -/
def rCatA (K : PySem.W.Frag) : R2 := fun x y H Q => ∃ a b xs ys, x = .ref a ∧ y = .ref b ∧ SqT K H a xs ∧ SqT K H b ys ∧ xs.length + ys.length ≤ sizeLine ∧
  (xs = [] → Q (.ref b) H) ∧ (ys = [] → Q (.ref a) H) ∧ (∀ p, H p = none → Q (.ref p) (upd H p (.tup (xs ++ ys))))
theorem op_catA : OpR X (binaryOp .Add) (rCatA X.K) := by
  intro pins s σ H x y v u Q I rx ry h
  obtain ⟨a, b, xs, ys, rfl, rfl, ha, hb, hz, q0, q1, q2⟩ := h
  by_cases hx : xs = []
  · cases rx
    cases ry
    obtain ⟨its, r1, p1, _⟩ := I.tuple ha
    obtain ⟨its2, r2, p2, _⟩ := I.tuple hb
    subst hx
    cases r1
    obtain ⟨⟨cls, dd, data, sl⟩, ho, hc, n, hd⟩ := id p1
    obtain ⟨⟨cls2, dd2, data2, sl2⟩, ho2, hc2, n2, hd2⟩ := id p2
    simp only at hc hd hc2 hd2
    subst hc hd hc2 hd2
    exact concat_meets ⟨_, ho, rfl⟩ ⟨_, ho2, rfl⟩ noFill_tuple_add seq_tuple_add PySem.F.slot_tuple_add PySem.F.entry_tuple_add (PySem.F.args_tuple_add_2 _ _) (tuple_addW0 a b _ _ n n2 dd dd2 sl sl2 rfl) ⟨ho, ho2, ⟨.ref b, H, I, rfl, q0 rfl⟩⟩
  · exact op_catT pins s σ H (.ref a) (.ref b) v u Q I rx ry ⟨a, b, xs, ys, rfl, rfl, ha, hb, hx, hz, q1, fun _ => q2⟩
end
/-! ### expressions that come to deep values -/
section
variable {σ : St} {H : Hp} {d e : Dv} {ds es : List Dv} {ta tb : TE} {t : TA}
theorem Reps.append {H : Hp} : ∀ {ds es : List Dv} {vs ws : List V}, Reps H ds vs → Reps H es ws → Reps H (ds ++ es) (vs ++ ws)
  | [], _, _, _, h, g => by simp only [Reps] at h; subst h; exact g
  | d :: ds, es, vs, ws, h, g => by
    simp only [Reps] at h
    obtain ⟨v, r, rfl, h1, h2⟩ := h
    simp only [List.cons_append, Reps]
    exact ⟨v, r ++ ws, rfl, h1, Reps.append h2 g⟩
end
end L2
namespace L2
open PySem PySem.Spec PyProof.Rows
/-! ### a list that grows: its items do not lean on it -/
section
variable {σ : St} {H : Hp} {d e : Dv} {ds es : List Dv} {ta tb : TE} {t : TA} {l : Addr}
variable {i : Nat} {u : TS} {D : Ends}
end
end L2

set_option maxHeartbeats 1000000
namespace L2
open PySem PySem.Spec PyProof.Rows
section
variable {X : Cx}
/-- two lists of the same texts are not unlike -/
theorem op_neL (hu : X.A.units < cLine) : OpR X (compareOp .NotEq) (fun x y H Q => ∃ (l b : Addr) (xs : List Str), x = .ref l ∧ y = .ref b ∧ SqL X.K H l (xs.map V.str) ∧ SqL X.K H b (xs.map V.str) ∧ Q (.bl false) H) := by
  intro pins s σ H x y v u Q I rx ry h
  obtain ⟨l, b, xs, rfl, rfl, hl, hb, q⟩ := h
  cases rx
  cases ry
  obtain ⟨its, r1, p1, _⟩ := I.list hl
  obtain ⟨its2, r2, p2, _⟩ := I.list hb
  have s1 := strs_of r1
  have s2 := strs_of r2
  have l1 := r1.length
  have l2 := r2.length
  have get : ∀ {xs : List Str} {us : List Value}, StrsAre us xs → ∀ j (hj : j < us.length), ∃ t, us[j] = Value.str (xs.getD j default) t := by
    intro xs us h
    induction h with
    | nil => intro j hj; simp at hj
    | cons x t _ ih =>
      intro j hj
      cases j with
      | zero => exact ⟨t, rfl⟩
      | succ j => obtain ⟨t', e⟩ := ih j (by simpa using hj); exact ⟨t', by simpa using e⟩
  refine SeqAt.RcNeAt.lists (e := fun _ => true) p1.isList p2.isList (by simp; omega) hu (fun j h1 h2 => ?_) X.prog X.w X.xe _ ?_
  · obtain ⟨t, e1⟩ := get s1 j (by simpa using h1)
    obtain ⟨t', e2⟩ := get s2 j (by simpa using h2)
    have e := SeqAt.EqAt.str_str (A := X.A.in1) (s := s) (xs.getD j default) t (xs.getD j default) t'
    rw [beq_self_eq_true] at e
    simpa [e1, e2] using e
  · have e : (!((List.range its.toArray.size).all fun _ => true)) = false := by simp
    rw [e]
    exact ⟨.bl false, H, I, rfl, q⟩
/-- l + m of lists that are read -/
theorem op_catQ : OpR X (binaryOp .Add) (fun x y H Q => ∃ (l b : Addr) (xs zs : List V), x = .ref l ∧ y = .ref b ∧ SqL X.K H l xs ∧ SqL X.K H b zs ∧ xs.length + zs.length ≤ sizeLine ∧ ∀ p, H p = none → Q (.ref p) (upd H p (.lst (xs ++ zs)))) := by
  intro pins s σ H x y v u Q I rx ry h
  obtain ⟨l, b, xs, zs, rfl, rfl, hl, hb, hz, q⟩ := h
  cases rx
  cases ry
  obtain ⟨its, r1, ⟨⟨c1, d1, dt1, sl1⟩, n1, e1, hc1, hd1, hdt1⟩, _⟩ := I.list hl
  obtain ⟨its2, r2, ⟨⟨c2, d2, dt2, sl2⟩, n2, e2, hc2, hd2, hdt2⟩, _⟩ := I.list hb
  simp only at hc1 hd1 hdt1 hc2 hd2 hdt2
  subst hc1 hd1 hdt1 hc2 hd2 hdt2
  refine concat_meets ⟨_, e1, rfl⟩ ⟨_, e2, rfl⟩ noFill_list_add seq_list_add PySem.F.slot_list_add PySem.F.entry_list_add (PySem.F.args_list_add_2 _ _) (list_addW l b its.toArray its2.toArray n1 n2 none none sl1 sl2 (by rw [List.size_toArray, List.size_toArray, ← r1.length, ← r2.length]; exact hz)) ⟨e1, e2, ?_⟩
  have ea : its.toArray ++ its2.toArray = (its ++ its2).toArray := by simp
  rw [ea]
  refine ⟨.ref s.heap.objs.size, _, I.laid (t' := s.toks) (o := .lst (xs ++ zs)) (fun b ob q => Heap.get?_push_of_some _ q) (Nat.le_refl _) ?_, rfl, q _ (I.hok.fresh (Nat.le_refl _))⟩
  exact ⟨by rw [List.length_append]; exact hz, _, 0, r1.append r2, Heap.get?_push_size _ rfl⟩
end
end L2

set_option maxHeartbeats 4000000
namespace L2
open PySem PySem.Spec PyProof.Rows

/-! ### a tuple has no keys -/
theorem attrQ_miss_tuple {prog : Program} {w : World} {A : Around} {E : Value → Shared → Prop} {s : Shared} {a : Addr} {o : Obj} {xs : Array Value} {k : Nat} {name : Str} {Q : Option Value → Shared → Prop}
    (hx : s.heap.get? a = some o) (hc : o.cls = .type "tuple") (hdat : o.data = .seq xs k) (hd : o.dict = none) (hmiss : typeLookup (.type "tuple") name = pure none) (hname : (["__module__", "__name__", "__qualname__", "__doc__", "__annotations__"] : List Str).contains name = false) (hA : A.handled = none)
    (h : ∀ h' tk e, Heap.NewExcOf s.heap h' e "AttributeError" → Q none { s with heap := h', toks := tk }) (hsz : name.length + 100 ≤ sizeLine := by size_fits) :
    wpAny (model prog w) A (getAttr? (.ref a) name) Q E s := by
  obtain ⟨c, dct, dat, sl⟩ := o
  simp only at hc hdat hd
  subst hc hdat hd
  obtain ⟨hp, g, d, tk, os⟩ := s
  have hT : ∀ tk', (⟨hp, g, d, tk', os⟩ : Shared).TypeIs (.ref a) "tuple" := fun _ => ⟨_, hx, rfl⟩
  have f1 := sub_AttributeError
  have f3 := F.slot_tuple_getattribute.lookup
  have f4 := F.slot_tuple_getattribute.bind (.ref a)
  have f5 := am_tuple_getattr_none
  unfold getAttr? getAttrBy? getAttrBy
  repeat (any_goals (first | assumption | exact hT _ | ((with_reducible show wpAny _ _ (call (Value.builtin "tuple.__getattribute__") _ _) _ _ _); refine call_meets F.slot_tuple_getattribute (hT _) am_entry_tuple_getattribute (F.args_tuple_getattribute_2 _ _) (meets_getattribute_miss_tuple a xs k sl name _ hmiss hname hsz) ⟨hx, hA, fun h' tk' e hx' => ?_⟩) | wp_step))
  obtain ⟨t', u', he⟩ := hx'.there
  show wpAny _ _ (getattributeRaised _ _ _ _ _ _ _) _ _ _
  unfold getattributeRaised
  repeat (any_goals (first | assumption | wp_step))
  exact h _ _ _ hx'.of
theorem tuple_keys_none : typeLookup (.type "tuple") "keys" = pure none := by rw [typeLookup_type, builtinLookup_eq_fast]; kernel_rfl
end L2

set_option maxHeartbeats 4000000
namespace L2
open PySem PySem.Spec PyProof.Rows

/-! ### dict(pairs): the loop that stores them -/
theorem plain_upd_loop : plainId "dict.update.loop" = true := by decide +kernel
theorem entry_upd_loop : entryFor table "dict.update.loop" = some Builtin.«dict.update.loop» := entryFor_of_fast (by kernel_rfl)
section
variable {prog : Program} {w : World} {K : Type} [DecidableEq K] {knd : PySem.KeyKind prog w K} {A : Around} {R : Result → Shared → Prop} {I d : Addr} {fp wr : List Addr} {n : Nat} {P : Nat → Value → Prop} {St : Nat → Heap → Prop}
def stAll (ks : Nat → K) (vs : Nat → Value) : Nat → Nat → List (K × Value) → List (K × Value)
  | _, 0, m => m
  | i, k + 1, m => stAll ks vs (i + 1) k (stored m (ks i) (vs i))
theorem len_stored (m : List (K × Value)) (k : K) (v : Value) : (stored m k v).length ≤ m.length + 1 := by
  unfold stored
  split
  · rw [List.length_map]; omega
  · simp
theorem codeAny_upd_loop (W : Walks prog w A.in1 I fp wr n P St) (bs : Nat → Addr) (ks : Nat → K) (us vs : Nat → Value) (hP : ∀ i v, P i v → v = .ref (bs i)) (hk : ∀ i, i < n → knd.is (ks i) (us i) = true) (hb : ∀ i, i < n → bs i ∉ wr ∧ bs i ≠ d) (hd : d ∉ fp) (hz : n ≤ sizeLine) :
    ∀ (k i : Nat) (s : Shared) (kvs : List (K × Value)) (t : Tok), n - i = k → i ≤ n → St i s.heap → kvs.length ≤ i → s.heap.DictOf knd d kvs → (∀ j, j < n → s.heap.IsTuple (bs j) #[us j, vs j]) →
    (∀ h' tk, h'.DictOf knd d (stAll ks vs i k kvs) → (∀ b o, b ∉ wr → b ≠ d → s.heap.get? b = some o → h'.get? b = some o) → R (.ok (.ret .none)) { s with heap := h', toks := tk }) →
    codeAny (model prog w) A (.builtin "dict.update.loop" ⟨[.ref d, .ref I, .int i t, .none], []⟩) R s := by
  have hdw : d ∉ wr := fun h => hd (W.sub _ h)
  intro k
  induction k with
  | zero =>
    intro i s kvs t hk' hi hst hl hm hT hR
    have hin : i = n := by omega
    subst hin
    refine codeAny_builtin entry_upd_loop ?_
    rw [Around.under_plainId plain_upd_loop _]
    show wpAny _ A.in1 (pyNext (.ref I) >>= _) _ _ s
    refine wpAny_bind (W.done s _ _ hst fun h' tk hk'' => ?_)
    show wpAny _ A.in1 (Builtin.Dict.addKeywords d [] >>= _) _ _ _
    refine wpAny_bind (wpAny_pure (wpAny_pure ?_))
    refine hR h' tk ?_ fun b o hbw _ e => hk'' b o hbw e
    obtain ⟨o, es, ep, ho, r⟩ := hm
    exact ⟨o, es, ep, hk'' d o hdw ho, r⟩
  | succ k ih =>
    intro i s kvs t hk' hi hst hl hm hT hR
    have hlt : i < n := by omega
    refine codeAny_builtin entry_upd_loop ?_
    rw [Around.under_plainId plain_upd_loop _]
    show wpAny _ A.in1 (pyNext (.ref I) >>= _) _ _ s
    refine wpAny_bind (W.item i s _ _ hlt hst fun v h' tk hPv hst' hk'' => ?_)
    obtain rfl := hP i v hPv
    have hm' : h'.DictOf knd d kvs := by
      obtain ⟨o, es, ep, ho, r⟩ := hm
      exact ⟨o, es, ep, hk'' d o hdw ho, r⟩
    have hT' : ∀ j, j < n → h'.IsTuple (bs j) #[us j, vs j] := fun j hj => by
      obtain ⟨o, ho, r⟩ := hT j hj
      exact ⟨o, hk'' _ _ (hb j hj).1 ho, r⟩
    obtain ⟨o, ho, hc, c, hdat⟩ := hT' i hlt
    refine wpAny_bind (wpAny_holding (wpAny_bind (wpAny_tryCatch ?_)))
    unfold Builtin.Dict.pairItems
    refine wpAny_bind (wpAny_typeOf (T := "tuple") ⟨_, ho, hc⟩ ?_)
    rw [if_pos (by decide)]
    refine wpAny_bind (wpAny_seqItems ho hdat (wpAny_pure ?_))
    refine wpAny_holding (wpAny_dictSet_pairs (hsz := by omega) (hk i hlt) hm' fun h2 hd2 hs2 => ?_)
    refine wpAny_pure ⟨plainId_quiet plain_upd_loop _, ih (i + 1) _ _ _ (by omega) hlt (W.frame _ _ _ hst' fun b hb' o' e => ?_) ?_ hd2 (fun j hj => ?_) fun h3 tk3 hd3 hk3 => ?_⟩
    · exact hs2.extBut b o' (fun h => hd (by rw [← h]; exact hb')) e
    · have := len_stored kvs (ks i) (vs i); omega
    · obtain ⟨o', ho', r⟩ := hT' j hj
      exact ⟨o', hs2.extBut _ _ (hb j hj).2 ho', r⟩
    · exact hR h3 tk3 hd3 fun b o' hbw hbd e => hk3 b o' hbw hbd (hs2.extBut b o' hbd (hk'' b o' hbw e))
end
end L2

set_option maxHeartbeats 4000000
namespace L2
open PySem PySem.Spec PyProof.Rows

/-! ### dict(pairs) -/
section
variable {prog : Program} {w : World} {K : Type} [DecidableEq K] {knd : PySem.KeyKind prog w K} {A : Around} {E : Value → Shared → Prop} {s : Shared}
theorem call_dict_pairs {a : Addr} {its : Array Value} {Q : Value → Shared → Prop} (bs : Nat → Addr) (ks : Nat → K) (us vs : Nat → Value) (hA : A.handled = none) (ht : s.heap.IsTuple a its) (hn : NoD s.heap a)
    (hP : ∀ (i : Nat) (v : Value), its[i]? = some v → v = .ref (bs i)) (hk : ∀ i, i < its.size → knd.is (ks i) (us i) = true) (hT : ∀ j, j < its.size → s.heap.IsTuple (bs j) #[us j, vs j]) (hz : its.size ≤ sizeLine)
    (h : ∀ h' tk, h'.DictOf knd s.heap.objs.size (stAll ks vs 0 its.size []) → (∀ b o, s.heap.get? b = some o → h'.get? b = some o) → Q (.ref s.heap.objs.size) { s with heap := h', toks := tk }) :
    wpAny (model prog w) A (call (.type "dict") [.ref a]) Q E s := by
  refine callType_codes (Q₁ := fun obj s₁ => obj = .ref s.heap.objs.size ∧ s₁ = { s with heap := s.heap.push { cls := .type "dict", data := .dict #[] } }) F.kt_called_dict (F.kt_typeCall_dict_1 _) F.entry_dict_init (kt_code_dict_new _ ⟨rfl, rfl⟩) ?_
  rintro obj s₁ ⟨rfl, rfl⟩
  have hnew : (s.heap.push { cls := .type "dict", data := .dict #[] }).DictOf knd s.heap.objs.size [] := Heap.DictOf.new s.heap
  have up : ∀ b o, s.heap.get? b = some o → (s.heap.push { cls := .type "dict", data := .dict #[] }).get? b = some o := fun b o e => Heap.get?_push_of_some _ e
  have low : ∀ b o, s.heap.get? b = some o → b ≠ s.heap.objs.size := fun b o e => Nat.ne_of_lt (Heap.lt_size e)
  refine ⟨hnew.typeIs, F.args_dict_init_2 _ _, ?_⟩
  unfold Builtin.«dict.__init__»
  refine wpAny_bind ?_
  unfold Builtin.Dict.selfAndRest
  refine wpAny_bind (wpAny_notOrdered_dict hnew.typeIs ?_)
  show wpAny _ _ (pure (s.heap.objs.size, [Value.ref a])) _ _ _
  refine wpAny_pure ?_
  show wpAny _ _ (Builtin.Dict.updateFrom "dict.__init__" s.heap.objs.size (.ref a) [] .none) _ _ _
  unfold Builtin.Dict.updateFrom
  obtain ⟨o, ho, hc, n, hdat⟩ := ht
  obtain ⟨o', ho', hd⟩ := hn
  obtain rfl : o = o' := Option.some.inj (ho.symm.trans ho')
  refine wpAny_bind (wpAny_typeOf (T := "tuple") ⟨_, up _ _ ho, hc⟩ ?_)
  rw [if_pos (by decide)]
  refine wpAny_bind (attrQ_miss_tuple (A := A.in1.in1) (up _ _ ho) hc hdat hd tuple_keys_none (by decide +kernel) hA fun h1 tk1 e1 X1 => ?_)
  rw [if_pos (show (none : Option Value).isNone = true from rfl)]
  refine wpAny_bind (wpAny_rule ?_)
  have t1 : h1.IsTuple a its := ⟨o, X1.keeps _ _ (up _ _ ho), hc, n, hdat⟩
  refine wpAny_bind (wpAny_pyIter_tuple t1 ?_)
  have hl1 : s.heap.objs.size < h1.objs.size := by
    obtain ⟨q, _, _, hq, _⟩ := hnew
    exact Heap.lt_size (X1.keeps _ _ hq)
  have k1 : ∀ b q, s.heap.get? b = some q → (h1.push { cls := .type "tuple_iterator", data := .fields #[.ref a, .int 0 0] }).get? b = some q := fun b q e => Heap.get?_push_of_some _ (X1.keeps _ _ (up _ _ e))
  have lt1 : ∀ b q, s.heap.get? b = some q → b ≠ h1.objs.size := fun b q e => Nat.ne_of_lt (Nat.lt_trans (Heap.lt_size e) hl1)
  refine wpAny_pure ⟨plainId_quiet plain_upd_loop _, codeAny_upd_loop (knd := knd) (n := its.size) (Walks.tuple (A := A.in1.in1) hA h1.objs.size a (lt1 _ _ ho) its) bs ks us vs hP hk (fun i hi => ?_) ?_ hz its.size 0 _ [] 0 (by omega) (Nat.zero_le _) ?_ (Nat.le_refl 0) ?_ (fun j hj => ?_) fun h' tk hd' hk' => ?_⟩
  · obtain ⟨q, hq, _⟩ := hT i hi
    exact ⟨by simpa using lt1 _ _ hq, low _ _ hq⟩
  · have := low _ _ ho
    simp only [List.mem_cons, List.mem_nil_iff, or_false, not_or]
    exact ⟨Nat.ne_of_lt hl1, fun e => this e.symm⟩
  · exact ⟨⟨_, Heap.get?_push_size _ rfl, rfl, rfl⟩, o, k1 _ _ ho, hc, n, hdat⟩
  · obtain ⟨q, es, ep, hq, r⟩ := hnew
    exact ⟨q, es, ep, Heap.get?_push_of_some _ (X1.keeps _ _ hq), r⟩
  · obtain ⟨q, hq, r⟩ := hT j hj
    exact ⟨q, k1 _ _ hq, r⟩
  · exact ⟨rfl, h h' tk hd' fun b q e => hk' b q (by simpa using lt1 _ _ e) (low _ _ e) (k1 _ _ e)⟩
end
end L2

set_option maxHeartbeats 4000000
namespace L2
open PySem PySem.Spec PyProof.Rows

theorem putK_add {m : List (Key × V)} {k : Key} {v : V} (h : k ∉ m.map (·.1)) : putK m k v = m ++ [(k, v)] := by
  unfold putK
  rw [if_neg]
  intro e
  rw [List.any_eq_true] at e
  obtain ⟨p, hp, e⟩ := e
  exact h (List.mem_map.mpr ⟨p, hp, of_decide_eq_true e⟩)
theorem kv_all {ks : Nat → Key} {vs : Nat → Value} : ∀ (l : List (Key × V)) (i : Nat) (m : List (Key × V)) (m' : List (Key × Value)), KV m m' → (∀ (j : Nat) (p : Key × V), l[j]? = some p → p.1 = ks (i + j) ∧ RelV p.2 (vs (i + j))) →
    ((m ++ l).map (·.1)).Nodup → KV (m ++ l) (stAll ks vs i l.length m')
  | [], i, m, m', r, _, _ => by rw [List.append_nil]; exact r
  | p :: l, i, m, m', r, h, nd => by
    obtain ⟨e, rv⟩ := h 0 p rfl
    have hk : ks i ∉ m.map (·.1) := by
      rw [List.map_append, List.nodup_append] at nd
      intro hm
      exact nd.2.2 _ hm _ (List.mem_map.mpr ⟨p, List.mem_cons_self, rfl⟩) e.symm
    have r2 : KV (m ++ [p]) (stored m' (ks i) (vs i)) := by
      have z := KV.put r (ks i) rv
      rw [putK_add hk] at z
      rwa [show (ks i, p.2) = p from by rw [show ks i = p.1 from e.symm]] at z
    have := kv_all l (i + 1) (m ++ [p]) _ r2 (fun j q hq => by have := h (j + 1) q (by simpa using hq); rwa [show i + (j + 1) = i + 1 + j by omega] at this) (by simpa using nd)
    rw [List.append_assoc] at this
    exact this
section
variable {X : Cx}
/-- dict(t), t a tuple of pairs, keys that differ -/
theorem call_dictP (hc : X.calm = true) : CallR X (.type "dict") (fun xs H Q => ∃ (a : Addr) (ps : List (Addr × Key × V)), xs = [.ref a] ∧ H a = some (.tup (ps.map fun p => V.ref p.1)) ∧ (∀ p ∈ ps, H p.1 = some (.tup [kV p.2.1, p.2.2])) ∧
    (ps.map (·.2.1)).Nodup ∧ ∀ d, H d = none → Q (.ref d) (upd H d (.dK (ps.map (·.2))))) := by
  intro pins s σ H xs us Q I r h
  obtain ⟨a, ps, rfl, ha, hp, nd, q⟩ := h
  obtain ⟨u, rfl, ru⟩ := vals1 r
  cases ru
  obtain ⟨z, its, rv, tp, no⟩ := (show ObjOk X.prog X.w H s.heap a (.tup (ps.map fun p => V.ref p.1)) from I.hok a _ ha)
  have hlen : ps.length = its.length := by have := rv.length; rwa [List.length_map] at this
  have two : ∀ i : Nat, ∃ y : Value × Value, ∀ p, ps[i]? = some p → RelV (kV p.2.1) y.1 ∧ RelV p.2.2 y.2 ∧ s.heap.IsTuple p.1 #[y.1, y.2] := fun i => by
    cases e : ps[i]? with
    | none => exact ⟨(.none, .none), fun p hp => nomatch hp⟩
    | some p =>
      obtain ⟨_, us, ru, t2, _⟩ := (show ObjOk X.prog X.w H s.heap p.1 (.tup [kV p.2.1, p.2.2]) from I.hok _ _ (hp p (List.mem_of_getElem? e)))
      obtain ⟨u1, u2, rfl, r1, r2⟩ := vals2 ru
      exact ⟨(u1, u2), fun p' e' => by cases e'; exact ⟨r1, r2, t2⟩⟩
  obtain ⟨f, hf⟩ := Classical.axiomOfChoice two
  have at' : ∀ i, i < its.toArray.size → ∃ p, ps[i]? = some p := fun i hi => ⟨ps[i]'(by rw [hlen]; simpa using hi), List.getElem?_eq_getElem _⟩
  refine call_dict_pairs (knd := mixKind X.prog X.w) (its := its.toArray) (fun i => ((ps[i]?).map (·.1)).getD a) (fun i => ((ps[i]?).map (·.2.1)).getD (.inl 0)) (fun i => (f i).1) (fun i => (f i).2) (I.ok.hd hc) tp no
    (fun i v hv => ?_) (fun i hi => ?_) (fun j hj => ?_) (by rw [List.size_toArray, ← hlen]; rwa [List.length_map] at z) fun h' tk dd kp => ?_
  · have hv' : its[i]? = some v := by simpa using hv
    have hi : i < ps.length := by rw [hlen]; exact (List.getElem?_eq_some_iff.mp hv').1
    obtain ⟨u', hu', r'⟩ := Vals.get (i := i) (x := V.ref ps[i].1) rv (by rw [List.getElem?_map, List.getElem?_eq_getElem hi]; rfl)
    obtain rfl : u' = v := Option.some.inj (hu'.symm.trans hv')
    cases r'
    show Value.ref _ = Value.ref _
    rw [List.getElem?_eq_getElem hi]; rfl
  · obtain ⟨p, e⟩ := at' i hi
    rw [e]
    exact kV_is (hf i p e).1
  · obtain ⟨p, e⟩ := at' j hj
    rw [e]
    exact (hf j p e).2.2
  · have rel : KV (ps.map (·.2)) (stAll (fun i => ((ps[i]?).map (·.2.1)).getD (.inl 0)) (fun i => (f i).2) 0 its.toArray.size []) := by
      have := kv_all (ks := fun i => ((ps[i]?).map (·.2.1)).getD (.inl 0)) (vs := fun i => (f i).2) (ps.map (·.2)) 0 [] [] .nil (fun j p hj => ?_) (by simpa [Function.comp_def] using nd)
      · rw [List.nil_append, List.length_map, hlen] at this
        rwa [List.size_toArray]
      · rw [List.getElem?_map] at hj
        cases e : ps[j]? with
        | none => rw [e] at hj; cases hj
        | some p' =>
          rw [e] at hj
          obtain rfl : p'.2 = p := Option.some.inj hj
          refine ⟨?_, ?_⟩
          · show _ = ((ps[0 + j]?).map (·.2.1)).getD (.inl 0)
            rw [Nat.zero_add, e]; rfl
          · rw [Nat.zero_add]; exact (hf j p' e).2.1
    refine ⟨.ref s.heap.objs.size, _, I.laid (a := s.heap.objs.size) (o := .dK (ps.map (·.2))) (t' := tk) kp (Nat.le_refl _) (dk_new (by rw [List.length_map] at z ⊢; exact z) (beq_eq_false_iff_ne.mpr (Ne.symm (Nat.ne_of_lt I.big))) rel dd), rfl, q _ I.fresh⟩
end
end L2

set_option maxHeartbeats 4000000
namespace L2
open PySem PySem.Spec PyProof.Rows

theorem preSum_take (ns : List Int) : ∀ k, k ≤ ns.length → preSum (fun i => (ns[i]?).getD 0) k = (ns.take k).sum
  | 0, _ => by simp [preSum]
  | k + 1, h => by
    have e : ns[k]? = some ns[k] := List.getElem?_eq_getElem (by omega)
    rw [preSum, preSum_take ns k (by omega), List.take_add_one, List.sum_append, e]
    simp
theorem ints_at : ∀ {ns : List Int} {us : List Value}, Vals (ns.map V.int) us → ∀ (i : Nat) (v : Value), us[i]? = some v → ∃ t, v = .int ((ns[i]?).getD 0) t := fun {ns us} r i v e => by
  have hl := r.length
  have hi : i < ns.length := by rw [List.length_map] at hl; rw [hl]; exact (List.getElem?_eq_some_iff.mp e).1
  obtain ⟨u, hu, ru⟩ := Vals.get (i := i) (x := V.int ns[i]) r (by rw [List.getElem?_map, List.getElem?_eq_getElem hi]; rfl)
  obtain rfl : u = v := Option.some.inj (hu.symm.trans e)
  obtain ⟨t, rfl⟩ := (show ∃ t, u = Value.int ns[i] t from ru)
  exact ⟨t, by rw [List.getElem?_eq_getElem hi]; rfl⟩
section
variable {X : Cx}
/-- sum(l), l a list of ints -/
theorem call_sumL (hc : X.calm = true) : CallR X (.builtin "sum") (fun xs H Q => ∃ (a : Addr) (ns : List Int), xs = [.ref a] ∧ SqL X.K H a (ns.map V.int) ∧ Q (.int ns.sum) H) := by
  intro pins s σ H xs us Q I r h
  obtain ⟨a, ns, rfl, hq, q⟩ := h
  obtain ⟨u, rfl, ru⟩ := vals1 r
  cases ru
  obtain ⟨its, rv, p, hz⟩ := I.list hq
  have hl := p.isList
  have hlt : a < s.heap.objs.size := by obtain ⟨_, e, _⟩ := hl; exact Heap.lt_size e
  have hlen : its.length = ns.length := by have := rv.length; rw [List.length_map] at this; exact this.symm
  refine call_sum_walkAnyS (wpAny_pyIter_list hl ?_)
  refine ⟨s.heap.objs.size, [s.heap.objs.size, a], [s.heap.objs.size], _, its.toArray.size, _, _, fun i => (ns[i]?).getD 0, rfl, (Walks.list (A := X.A.in1) (I.ok.hd hc) _ a (Nat.ne_of_lt hlt) its.toArray).toS,
    ⟨⟨_, Heap.get?_push_size _ rfl, rfl, rfl⟩, hl.push _⟩, fun b hb => ?_, fun i v hP => ints_at rv i v (by simpa using hP), fun s' t' hm => ?_⟩
  · obtain ⟨_, e, _⟩ := hl
    rcases List.mem_cons.mp hb with rfl | hb
    · exact Heap.lt_size (Heap.get?_push_size _ rfl)
    · obtain rfl := List.mem_singleton.mp hb
      exact Heap.lt_size (Heap.get?_push_of_some _ e)
  · obtain ⟨h', g', d', tk', os'⟩ := s'
    have e1 : g' = s.gens := hm.gens
    have e2 : d' = s.drawn := hm.drawn
    have e3 : os' = s.os := hm.os
    subst e1 e2 e3
    rw [List.size_toArray, hlen, preSum_take ns _ (Nat.le_refl _), List.take_length]
    exact ⟨.int ns.sum, H, I.kept fun b o e => hm.heap b o (fun hb => absurd (Heap.lt_size e) ((List.mem_singleton.mp hb) ▸ Nat.lt_irrefl _)) (Heap.get?_push_of_some _ e), ⟨t', rfl⟩, q⟩
end
end L2

set_option maxHeartbeats 4000000
namespace L2
open PySem PySem.Spec PyProof.Rows PySem.W

section
variable {X : Cx} {pins : List (Addr × Obj)} {σ : St} {H : Hp} {s : Shared}
/-- a tracked list is written anew, the frame's own names stay -/
theorem Inv.setList {D : Addr} {ys0 ys : List V} {its : List Value} {c : Nat} {h' : Heap} {m : Str → Option Value} (I : Inv X pins σ H s) (hm : s.heap.Ns X.env.locals m) (hD : H D = some (.lst ys0)) (rv : Vals ys its) (hz : ys.length ≤ sizeLine)
    (F : h'.Ns X.env.locals m) (k : ∀ b o, b ≠ X.env.locals → b ≠ D → s.heap.get? b = some o → h'.get? b = some o) (e : h'.get? D = some { cls := .type "list", data := .seq its.toArray c }) : Inv X pins σ (upd H D (.lst ys)) { s with heap := h' } := by
  have nl : ∀ b v, H b = some v → b ≠ X.env.locals := fun b v q z => by rw [z, I.free] at q; cases q
  have nD : ∀ b, H b = none → b ≠ D := fun b q z => by rw [z, hD] at q; cases q
  have nT : ∀ b v, H b = some v → v ≠ .lst ys0 → b ≠ D := fun b v q n z => by rw [z, hD] at q; cases q; exact n rfl
  refine I.step (g' := s.gens) (d' := s.drawn) (t' := s.toks) (ch := []) (fun b hb => by cases hb) (fun b o hL _ _ q n => k b o hL (nD b n) q) (fun b o hL _ _ q n => ⟨o.slots, k b o hL (nD b n) q⟩) (fun b o _ q n => by rw [upd_ne (nD b n)]; exact n) (fun b o _ q => ?_)
    (fun b xs q => by rw [upd_ne (nT b _ q nofun)]; exact q) (fun b o v q => by rw [upd_ne (nT b _ q nofun)]; exact q) (fun b ps q => ⟨#[], by rw [upd_ne (nT b _ q nofun), q]; simp⟩) (fun m' hm' => by rw [ns_one hm' hm]; exact F) (fun b v q => ?_) I.bare
  · by_cases hb : b = X.env.locals
    · subst hb
      obtain ⟨o', _, _, q', _⟩ := F
      exact ⟨o', q'⟩
    · by_cases hd : b = D
      · subst hd; exact ⟨_, e⟩
      · exact ⟨o, k b o hb hd q⟩
  · by_cases hb : b = D
    · subst hb
      rw [upd_same] at q
      cases q
      exact ⟨hz, its, c, rv, e⟩
    · rw [upd_ne hb] at q
      refine (I.hok b v q).stay (fun c w' hc q' => ?_) (fun c q' => by rw [upd_ne (nT c _ q' nofun)]; exact q') fun c xs q' => by rw [upd_ne (nT c _ q' nofun)]; exact q'
      rcases hc with z | z
      · subst z; exact k c w' (nl c v q) hb q'
      · exact k c w' (nl c _ z) (nT c _ z nofun) q'

/-! ### d.items(), and sorted of it -/
end
end L2

set_option maxHeartbeats 1000000
namespace L2
open PySem PySem.Spec PyProof.Rows

/-! ### deep values that are the same -/
section
variable {X : Cx} {pins : List (Addr × Obj)} {σ : St} {H : Hp} {s : Shared}
end
section
variable {X : Cx}
end
theorem hu8_of {A : Around} {k : Nat} (hr : Room k A) : A.units + 8 < cLine := by have := hr.un; omega

/-! ### a def with defaults -/
section
variable {P : Program} {w : World} {K : PySem.W.Frag} {mg : Str → Option Value} {base : Heap}
end
end L2

set_option maxHeartbeats 1000000
namespace L2
open PySem PySem.Spec PyProof.Rows PySem.W

/-! ### z[::-1] of a text -/
section
variable {X : Cx} {e st : Expr} {te : TE} {ts : TO} {p2 pos : Pos}
end
section
variable {X : Cx}
/-! ### dict(d) of a dict, and != of two dicts of the same things -/
theorem call_dictC : CallR X (.type "dict") (fun xs H Q => ∃ (d : Addr) (m : List (Key × V)), xs = [.ref d] ∧ Rd H d (.dK m) ∧ ∀ e, H e = none → Q (.ref e) (upd H e (.dK m))) := by
  intro pins s σ H xs us Q I r h
  obtain ⟨d, m, rfl, hd, q⟩ := h
  obtain ⟨u, rfl, ru⟩ := vals1 r
  cases ru
  obtain ⟨z, hdm, vs, rel, dd⟩ := dk_rd I.hok hd
  refine kt_call_dict (knd := mixKind X.prog X.w) hdm dd (by rw [← rel.length]; exact z) fun h' dd' sb => ?_
  refine ⟨.ref s.heap.objs.size, _, I.laid (t' := s.toks) (a := s.heap.objs.size) (o := .dK m) (fun b u e => ?_) (Nat.le_refl _) (dk_new z (beq_eq_false_iff_ne.mpr (Ne.symm (Nat.ne_of_lt I.big))) rel dd'), rfl, q _ I.fresh⟩
  rw [sb.2 b (Nat.ne_of_lt (Heap.lt_size e))]
  exact Heap.get?_push_of_some _ e
theorem hits_all {A : Around} {s : Shared} {kb : List (Key × Value)} : ∀ (l : List (Key × Value)), (∀ p ∈ l, ∃ y, valueAt kb p.1 = some y ∧ SeqAt.EqAt A s p.2 y true) → KeqHits A s kb l true
  | [], _ => .nil
  | (k, v) :: l, h => by
    obtain ⟨y, hy, he⟩ := h (k, v) List.mem_cons_self
    exact KeqHits.hit (e := true) (b := true) hy he (hits_all l fun p hp => h p (List.mem_cons_of_mem _ hp))
/-! ### products of greater numbers -/
theorem op_mulK : OpR X (binaryOp .Mult) (rI IntMulOk fun i j => .int (i * j)) := opI fun _ _ _ _ _ _ _ hc q => mul_int q hc
theorem bits_le {k : Int} {n : Nat} (h1 : -(2 ^ n) < k) (h2 : k < 2 ^ n) : Builtin.Int.intBits k ≤ n := by
  unfold Builtin.Int.intBits
  split
  · exact Nat.zero_le _
  · have hn : k.natAbs < 2 ^ n := by
      have e : ((2 ^ n : Nat) : Int) = (2 : Int) ^ n := by simp
      omega
    have : k.natAbs.log2 < n := by
      rcases Nat.eq_zero_or_pos k.natAbs with h0 | hp
      · rename_i hne
        have : k = 0 := Int.natAbs_eq_zero.mp h0
        simp [this] at hne
      · exact (Nat.log2_lt (Nat.ne_of_gt hp)).mpr hn
    omega
theorem mul_big {i j : Int} (h1 : -(2 ^ 1000) < i) (h2 : i < 2 ^ 1000) (h3 : -(2 ^ 1000) < j) (h4 : j < 2 ^ 1000) : IntMulOk i j := by
  have a := bits_le h1 h2
  have b := bits_le h3 h4
  unfold IntMulOk Builtin.Int.intTooBig
  have e : decide (((Builtin.Int.intBits i + Builtin.Int.intBits j : Nat) : Int) > (bitsLine : Int)) = false := decide_eq_false (by
    have : (bitsLine : Int) = 134217728 := by decide +kernel
    omega)
  simp only [Int.natCast_add] at e
  rw [e]
  simp
end
end L2

set_option maxHeartbeats 1000000
namespace L2
open PySem PySem.Spec PyProof.Rows PySem.W

/-! ### a set of texts: what its table keeps -/
theorem orStand_led (t : SetTable) (n : Nat) : (t.orStandIn n).led = t.led ∧ ((t.orStandIn n).plain = true → t.plain = true) := by
  unfold SetTable.orStandIn
  split
  · exact ⟨rfl, fun h => h⟩
  · exact ⟨rfl, fun h => by cases h⟩
theorem lay_led (t : SetTable) (es : Array (Int × Value)) (h : Int) (x : Value) : (layNew t es h x).2.1.led = t.led ∧ ((layNew t es h x).2.1.plain = true → t.plain = true) := by
  unfold layNew
  split
  · rename_i slot wd _
    obtain ⟨a, b⟩ := orStand_led (t.put slot).1 (SetTable.insertAt es (t.put slot).2 (h, x)).size
    exact ⟨a, b⟩
  · exact ⟨rfl, fun h => by cases h⟩
theorem relaid_led {t t' : SetTable} {hs : Array Int} {n : Nat} {o : Array Nat} (h : t.relaid hs n = some (t', o)) : t'.led = t.led ∧ t'.plain = t.plain := by
  unfold SetTable.relaid SetTable.laid at h
  cases e : SetTable.layClean (SetTable.sizeAbove n - 1) hs with
  | none => rw [e] at h; cases h
  | some ow =>
    rw [e] at h
    have h2 := Option.some.inj h
    injection h2 with h3 h4
    subst h3
    exact ⟨rfl, rfl⟩
theorem relay_led (t : SetTable) (es : Array (Int × Value)) (n : Nat) : (relayAll t es n).2.1.led = t.led ∧ ((relayAll t es n).2.1.plain = true → t.plain = true) := by
  unfold relayAll
  split
  · rename_i t' o h
    obtain ⟨a, b⟩ := relaid_led h
    dsimp only
    split
    · exact ⟨a, fun z => by rw [← b]; exact z⟩
    · exact ⟨rfl, fun z => by cases z⟩
  · exact ⟨rfl, fun z => by cases z⟩

def txtOf (e : Int × Value) : Str := match e.2 with | .str x _ => x | _ => default
/-- a set whose things are just these texts -/
def SetS (P : Program) (w : World) (h : Heap) (a : Addr) (xs : List Str) : Prop :=
  ∃ o es ep t, h.get? a = some o ∧ o.ExactSet ∧ o.data = .set es ep t ∧ ElemsOf (PySem.strKind P w) es.toList ∧ es.size < scanBound ∧ t.fits es.size = true ∧ t.led = (!w.params.followText "set-order") ∧ (t.plain = true → es.size = 0) ∧ (es.toList.map txtOf).Perm xs
section
variable {P : Program} {w : World} {A : Around} {E : Value → Shared → Prop} {s : Shared}
theorem txt_of_is {y : Str} {e : Int × Value} (h : (PySem.strKind P w).is y e.2 = true) : txtOf e = y := by
  obtain ⟨t, ht⟩ := Value.isStrOf_shape h
  unfold txtOf
  rw [ht]
theorem is_of_txt {e : Int × Value} (h : ∃ k, (PySem.strKind P w).is k e.2 = true) : (PySem.strKind P w).is (txtOf e) e.2 = true := by
  obtain ⟨k, hk⟩ := h
  rw [txt_of_is hk]; exact hk
theorem SetS.put {h : Heap} {a : Addr} {o : Obj} {es es' : Array (Int × Value)} {ep : Nat} {t t' : SetTable} {xs : List Str} (ho : h.get? a = some o) (hex : o.ExactSet) (hd : o.data = .set es ep t) (hel : ElemsOf (PySem.strKind P w) es'.toList)
    (hb : es'.size < scanBound) (hf : t'.fits es'.size = true) (hl : t'.led = (!w.params.followText "set-order")) (hp : t'.plain = true → es'.size = 0) (hx : (es'.toList.map txtOf).Perm xs) :
    (h.update a (Obj.putSet es' t')).get? a = some { o with data := .set es' (ep + 1) t' } ∧ SetS P w (h.update a (Obj.putSet es' t')) a xs := by
  have hg : (h.update a (Obj.putSet es' t')).get? a = some { o with data := .set es' (ep + 1) t' } := by
    have := Heap.get?_update_self (Obj.putSet es' t') ho (by rw [putSet_of es' t' hd]; rfl)
    rw [putSet_of es' t' hd] at this; exact this
  exact ⟨hg, _, es', ep + 1, t', hg, hex, rfl, hel, hb, hf, hl, hp, hx⟩
theorem add_tail {g : Bool → Sem Unit} (hg : ∀ (b : Bool) (s₁ : Shared) (Q' : Unit → Shared → Prop), Q' () s₁ → wpAny (model P w) A (g b) Q' E s₁) {a : Addr} {o : Obj} {es es1 : Array (Int × Value)} {ep : Nat} {t t2 : SetTable} {xs : List Str} {wd : Bool} {R : Option Bool → Shared → Prop}
    (ho : s.heap.get? a = some o) (hex : o.ExactSet) (hd : o.data = .set es ep t) (hel : ElemsOf (PySem.strKind P w) es1.toList) (hb : es1.size < scanBound) (hf : t2.fits es1.size = true) (hl : t2.led = (!w.params.followText "set-order")) (hp : t2.plain = false) (hx : (es1.toList.map txtOf).Perm xs)
    (h : ∀ h', Heap.SameBut a s.heap h' → SetS P w h' a xs → R (some true) { s with heap := h' }) :
    wpAny (model P w) A (do
        storeSet a es1 t2
        if (!wd && t2.tooFull) = true then do
            g (relayAll t2 es1 (SetTable.grown es1.size)).2.2
            storeSet a (relayAll t2 es1 (SetTable.grown es1.size)).1 (relayAll t2 es1 (SetTable.grown es1.size)).2.1
            pure (some true)
          else pure (some true)) R E s := by
  refine wpAny_bind (wpAny_storeSet_of ho hd ?_ (fits_of_scanBound hb))
  obtain ⟨ho1, hS1⟩ := SetS.put (P := P) (w := w) ho hex hd hel hb hf hl (fun z => by rw [hp] at z; cases z) hx
  have sb1 := Heap.SameBut.update s.heap a (Obj.putSet es1 t2)
  split
  · have pm := relayAll_perm t2 es1 (SetTable.grown es1.size)
    have ft := relayAll_fits t2 es1 (SetTable.grown es1.size)
    have ld := relay_led t2 es1 (SetTable.grown es1.size)
    generalize relayAll t2 es1 (SetTable.grown es1.size) = Rl at pm ft ld ⊢
    obtain ⟨es2, t3, gave⟩ := Rl
    dsimp only at pm ft ld ⊢
    have sz : es2.size = es1.size := by rw [← Array.length_toList, pm.length_eq, Array.length_toList]
    refine wpAny_bind (hg _ _ _ (wpAny_bind (wpAny_storeSet_of ho1 rfl ?_ (fits_of_scanBound (by rw [sz]; exact hb)))))
    obtain ⟨_, hS2⟩ := SetS.put (P := P) (w := w) (xs := xs) ho1 hex rfl (hel.perm pm) (by rw [sz]; exact hb) ft (by rw [ld.1]; exact hl) (fun z => by have := ld.2 z; rw [hp] at this; cases this) ((pm.map _).trans hx)
    exact wpAny_pure (h _ (sb1.trans (Heap.SameBut.update _ a _)) hS2)
  · exact wpAny_pure (h _ sb1 hS1)
theorem set_add_str {a : Addr} {xs : List Str} {y : Str} {tk : Tok} {Q : Bool → Shared → Prop} (hS : SetS P w s.heap a xs) (hlen : xs.length + 1 < scanBound)
    (h : ∀ h' b, Heap.SameBut a s.heap h' → SetS P w h' a (if y ∈ xs then xs else xs ++ [y]) → Q b { s with heap := h' }) : wpAny (model P w) A (setAddHashed a (.str y tk) ((PySem.strKind P w).hash y)) Q E s := by
  obtain ⟨o, es, ep, t, ho, hex, hd, hel, hb, hf, hl, hpl, hx⟩ := hS
  have hkey : (PySem.strKind P w).is y (.str y tk) = true := strKind_is _ _ _ _
  have hsc : (Value.str y tk).scannable = true := rfl
  have sz : es.size = xs.length := by rw [← hx.length_eq, List.length_map, Array.length_toList]
  unfold setAddHashed setAddHashedIn
  refine wpAny_holding (wpAny_bind (wpAny_setState_of ho hd hf ?_))
  dsimp only
  rw [byScan_of hsc hb hel]
  simp only [↓reduceIte]
  unfold setAddByScan
  refine wpAny_bind (wpAny_bind (wpAny_rule (wpAny_bind (wpAny_setScan_of hkey ho hd hf hel ?_))))
  cases hr : List.findIdx? (fun e => (PySem.strKind P w).is y e.2) es.toList with
  | some j =>
    dsimp only
    obtain ⟨hj, hpj, _⟩ := List.findIdx?_eq_some_iff_getElem.mp hr
    have hy : y ∈ xs := hx.mem_iff.mp (List.mem_map.mpr ⟨es.toList[j], List.getElem_mem hj, txt_of_is hpj⟩)
    have e : s = { s with heap := s.heap } := by cases s; rfl
    have q := h s.heap false (Heap.SameBut.refl a s.heap) (by rw [if_pos hy]; exact ⟨o, es, ep, t, ho, hex, hd, hel, hb, hf, hl, hpl, hx⟩)
    rw [← e] at q
    exact wpAny_pure (wpAny_pure q)
  | none =>
    dsimp only
    have hy : y ∉ xs := fun z => by
      obtain ⟨e, he, e1⟩ := List.mem_map.mp (hx.mem_iff.mpr z)
      have := List.findIdx?_eq_none_iff.mp hr e he
      rw [← e1, is_of_txt (hel.keys e he)] at this
      cases this
    rw [if_neg hy] at h
    have hgw : ∀ (b : Bool) {s₁ : Shared} {Q' : Unit → Shared → Prop}, Q' () s₁ → wpAny (model P w) A (match b with | true => rule "set.scan.the-table-gave-way" | false => pure ()) Q' E s₁ :=
      fun b s₁ Q' hq => by cases b <;> first | exact wpAny_pure hq | exact wpAny_rule hq
    have pm := layNew_perm t es ((PySem.strKind P w).hash y) (.str y tk)
    have ft := layNew_fits t es ((PySem.strKind P w).hash y) (.str y tk)
    have ld := lay_led t es ((PySem.strKind P w).hash y) (.str y tk)
    generalize layNew t es ((PySem.strKind P w).hash y) (.str y tk) = L at pm ft ld ⊢
    obtain ⟨es1, t1, wd, gave⟩ := L
    dsimp only at pm ft ld ⊢
    rw [Array.toList_push] at pm
    have hel1 : ElemsOf (PySem.strKind P w) es1.toList := (hel.push hkey hsc).perm pm
    have sz1 : es1.size = es.size + 1 := by rw [← Array.length_toList, pm.length_eq, List.length_append, Array.length_toList]; rfl
    have hb1 : es1.size < scanBound := by rw [sz1, sz]; exact hlen
    have hx1 : (es1.toList.map txtOf).Perm (xs ++ [y]) := by
      refine (pm.map txtOf).trans ?_
      rw [List.map_append]
      exact hx.append (List.Perm.refl _)
    refine wpAny_bind (hgw _ ?_)
    split
    · refine wpAny_bind ?_
      rw [hashByValue_scannable 8 hsc]
      refine wpAny_pure ?_
      refine add_tail ?_ ho hex hd hel1 hb1 (t2 := { t1 with plain := false }) (SetTable.fits_plain_off ft) (by rw [← hl]; exact ld.1) rfl hx1 ?_
      · intro b s₁ Q' hq; cases b <;> first | exact wpAny_pure hq | exact wpAny_rule hq
      · intro h' sb hS'; dsimp only; exact wpAny_pure (h h' true sb hS')
    · rename_i hnp
      refine wpAny_bind (wpAny_pure ?_)
      simp only [↓reduceIte]
      refine add_tail ?_ ho hex hd hel1 hb1 ft (by rw [← hl]; exact ld.1) (by cases z : t1.plain with | false => rfl | true => exact absurd z hnp) hx1 ?_
      · intro b s₁ Q' hq; cases b <;> first | exact wpAny_pure hq | exact wpAny_rule hq
      · intro h' sb hS'; dsimp only; exact wpAny_pure (h h' true sb hS')
end
end L2

set_option maxHeartbeats 3200000
namespace L2
open PySem PySem.Spec PyProof.Rows PySem.W

/-! ### set(l), l a list of texts -/
def uStep (acc : List Str) (y : Str) : List Str := if y ∈ acc then acc else acc ++ [y]
def uq (val : Nat → Str) (i : Nat) : List Str := ((List.range i).map val).foldl uStep []
theorem uq_succ (val : Nat → Str) (i : Nat) : uq val (i + 1) = uStep (uq val i) (val i) := by
  unfold uq
  rw [List.range_succ, List.map_append, List.foldl_append]
  rfl
theorem uq_len (val : Nat → Str) : ∀ i, (uq val i).length ≤ i
  | 0 => Nat.le_refl _
  | i + 1 => by
    have ih := uq_len val i
    rw [uq_succ]
    unfold uStep
    split
    · omega
    · rw [List.length_append, List.length_singleton]; omega
theorem uq_nodup (val : Nat → Str) : ∀ i, (uq val i).Nodup
  | 0 => List.nodup_nil
  | i + 1 => by
    rw [uq_succ]
    unfold uStep
    split
    · exact uq_nodup val i
    · rename_i h
      exact List.nodup_append.mpr ⟨uq_nodup val i, by simp, fun a ha b hb e => h (by rw [List.mem_singleton.mp hb] at e; rw [← e]; exact ha)⟩
theorem uq_mem (val : Nat → Str) (x : Str) : ∀ i, x ∈ uq val i ↔ ∃ j, j < i ∧ val j = x
  | 0 => ⟨(fun h => nomatch h), (fun ⟨j, h, _⟩ => absurd h (Nat.not_lt_zero _))⟩
  | i + 1 => by
    rw [uq_succ]
    unfold uStep
    have ih := uq_mem val x i
    constructor
    · intro h
      split at h
      · obtain ⟨j, hj, e⟩ := ih.mp h
        exact ⟨j, by omega, e⟩
      · rcases List.mem_append.mp h with h | h
        · obtain ⟨j, hj, e⟩ := ih.mp h
          exact ⟨j, by omega, e⟩
        · exact ⟨i, by omega, (List.mem_singleton.mp h).symm⟩
    · rintro ⟨j, hj, e⟩
      split
      · rename_i h
        by_cases hji : j = i
        · rw [← e, hji]; exact h
        · exact ih.mpr ⟨j, by omega, e⟩
      · by_cases hji : j = i
        · rw [← e, hji]; exact List.mem_append_right _ (List.mem_singleton.mpr rfl)
        · exact List.mem_append_left _ (ih.mpr ⟨j, by omega, e⟩)
section
variable {P : Program} {w : World} {A : Around} {R : Result → Shared → Prop} {I : Addr} {fp wr : List Addr} {G : Array GenState → Array GenState → Prop} {n : Nat} {Pv : Nat → Value → Prop} {St : Nat → Shared → Prop}
theorem SetS.at' {h h' : Heap} {a : Addr} {xs : List Str} (x : SetS P w h a xs) (k : ∀ o, h.get? a = some o → h'.get? a = some o) : SetS P w h' a xs := let ⟨o, es, ep, t, ho, r⟩ := x; ⟨o, es, ep, t, k o ho, r⟩
theorem set_loop (W : WalksS P w A.in1 I fp wr G n Pv St) (S : Addr) (hSf : S ∉ fp) (val : Nat → Str) (hval : ∀ i v, Pv i v → ∃ t, v = .str (val i) t) (hb : n + 1 < scanBound) :
    ∀ (k i : Nat) (s : Shared), n - i = k → i ≤ n → St i s → SetS P w s.heap S (uq val i) → (∀ s', Moved (S :: wr) G s s' → SetS P w s'.heap S (uq val n) → R (.ok (.ret .none)) s') →
      codeAny (model P w) A (.builtin "set.update.loop" ⟨[.ref S, .ref I], []⟩) R s := by
  have hSw : S ∉ wr := fun h => hSf (W.sub _ h)
  have more : ∀ b ∈ wr, b ∈ S :: wr := fun b hb => List.mem_cons_of_mem _ hb
  intro k
  induction k with
  | zero =>
    intro i s hk hi st hS fin
    obtain rfl : i = n := by omega
    refine codeAny_builtin F.entry_set_update_loop ?_
    rw [Around.under_plainId F.plain_set_update_loop _]
    show wpAny _ A.in1 (pyNext (.ref I) >>= _) _ _ s
    refine wpAny_bind (W.done s _ _ st fun s' hm => ?_)
    show wpAny _ A.in1 (ret Value.none) _ _ s'
    exact wpAny_pure (fin s' (hm.mono more) (hS.at' fun o e => hm.heap S _ hSw e))
  | succ k ih =>
    intro i s hk hi st hS fin
    have hlt : i < n := by omega
    refine codeAny_builtin F.entry_set_update_loop ?_
    rw [Around.under_plainId F.plain_set_update_loop _]
    show wpAny _ A.in1 (pyNext (.ref I) >>= _) _ _ s
    refine wpAny_bind (W.item i s _ _ hlt st fun v s' hP st' hm => ?_)
    obtain ⟨t, rfl⟩ := hval i v hP
    have hS' : SetS P w s'.heap S (uq val i) := hS.at' fun o e => hm.heap S _ hSw e
    show wpAny _ A.in1 (holding [Value.str (val i) t] (setAdd S (.str (val i) t)) >>= _) _ _ s'
    refine wpAny_bind (wpAny_holding ?_)
    unfold setAdd
    refine wpAny_holding (wpAny_bind ((PySem.strKind P w).pyHash (k := val i) (strKind_is _ _ _ _) ?_))
    have room : (uq val i).length + 1 < scanBound := by have := uq_len val i; omega
    refine set_add_str (s := { s' with toks := s'.toks + 1 }) hS' room fun h' b sb hS2 => ?_
    have hSi : SetS P w h' S (uq val (i + 1)) := by rw [uq_succ]; exact hS2
    refine wpAny_pure ⟨plainId_quiet F.plain_set_update_loop _, ih (i + 1) _ (by omega) hlt (W.frame _ s' _ _ st' (Nat.le_succ _) fun b hb o e => ?_) hSi fun s'' hm'' hS'' => ?_⟩
    · rw [sb.2 b (fun h : b = S => hSf (by rw [← h]; exact hb))]; exact e
    · refine fin s'' (Moved.trans W.gtrans ((hm.mono more).then_heap (Nat.le_succ _) fun b o hb e => ?_) hm'') hS''
      rw [sb.2 b (fun h : b = S => hb (by rw [h]; exact List.mem_cons_self))]; exact e
end
def freshO (w : World) : Obj := { cls := .type "set", dict := none, data := .set #[] 0 (.fresh 0 0 (!w.params.followText "set-order")) }
section
variable {P : Program} {w : World} {A : Around} {E : Value → Shared → Prop} {s : Shared}
theorem code_set_newL (a : Value) {Q₁ : Value → Shared → Prop} (h : Q₁ (.ref s.heap.objs.size) { s with heap := s.heap.push (freshO w) }) :
    codeAny (model P w) A (.call (.builtin "set.__new__") ⟨[.type "set", a], []⟩) (wants Q₁ E) s := by
  refine codeAny_of_tree ?_
  show wpAny _ A.in1 (do checkBuiltinCall "set.__new__" ⟨[.type "set", a], []⟩; again (.builtin "set.__new__" ⟨[.type "set", a], []⟩)) _ _ s
  refine wpAny_bind (wpAny_of_eq (PySem.F.newCall_set_1 a) (wpAny_pure ⟨plainId_quiet PySem.F.plain_set_new _, codeAny_builtin PySem.F.entry_set_new ?_⟩))
  rw [Around.under_plainId PySem.F.plain_set_new _]
  unfold Builtin.«set.__new__» Builtin.Frozenset.newClass
  have hsub := sub_set_self
  obtain ⟨hp, g, d, tk, os⟩ := s
  dsimp only
  wp_walk
  refine wpAny_askSetting (wpAny_pure ?_)
  dsimp only
  simp only [newObj]
  refine wpAny_bind (wpAny_alloc (wpAny_pure ?_))
  exact wpAny_pure h
theorem fresh_SetS (h : Heap) : SetS P w (h.push (freshO w)) h.objs.size [] :=
  ⟨_, #[], 0, _, Heap.get?_push_size _ rfl, ⟨rfl, rfl, rfl⟩, rfl, fun e he => by simp at he, by decide, rfl, rfl, fun _ => rfl, List.Perm.refl _⟩
theorem call_set_strs {l : Addr} {items : Array Value} {ys : List Str} {Q : Value → Shared → Prop} (hh : A.handled = none) (hl : s.heap.IsList l items) (hi : ∀ (i : Nat) (v : Value), items[i]? = some v → ∃ t, v = .str (ys.getD i default) t) (hb : items.size + 1 < scanBound)
    (h : ∀ (h' : Heap) (tk : Nat), SetS P w h' s.heap.objs.size (uq (fun i => ys.getD i default) items.size) → (∀ b o, b < s.heap.objs.size → s.heap.get? b = some o → h'.get? b = some o) → Q (.ref s.heap.objs.size) { s with heap := h', toks := tk }) :
    wpAny (model P w) A (call (.type "set") [.ref l]) Q E s := by
  obtain ⟨c, tl, hmro⟩ := PySem.F.called_set.mro
  have hmade := PySem.F.called_set.made
  have hsub := PySem.F.called_set.sub
  refine wpAny_call (codeAny_of_tree ?_)
  show wpAny _ _ (callAny (.type "set") _) _ _ _
  refine wpAny_pure ⟨Code.quiet_builtin _ (by decide +kernel), codeAny_builtin PySem.F.entry_type_call ?_⟩
  rw [Around.under_plain (weight_type_call_type "set" [.ref l] []) rfl]
  have h1 := PySem.F.called_set.notType
  have h2 := PySem.F.called_set.canCreate
  have hct := PySem.F.typeCall_set_1 (.ref l)
  repeat (any_goals (first | assumption | wp_step))
  refine codeAny_mono (code_set_newL (.ref l) (E := E) (Q₁ := fun obj s₁ => obj = .ref s.heap.objs.size ∧ s₁ = { s with heap := s.heap.push (freshO w) }) ⟨rfl, rfl⟩) fun r s₁ hr => ?_
  cases r with
  | error e => exact hr
  | ok fl =>
    cases fl with
    | ret obj =>
      obtain ⟨rfl, rfl⟩ := hr
      have hS : (s.heap.push (freshO w)).get? s.heap.objs.size = some (freshO w) := Heap.get?_push_size _ rfl
      have hT : Shared.TypeIs { s with heap := s.heap.push (freshO w) } (.ref s.heap.objs.size) "set" := ⟨_, hS, rfl⟩
      have hli := PySem.F.called_set.init.lookup
      have hbi := PySem.F.called_set.init.bind (.ref s.heap.objs.size)
      repeat (any_goals (first | assumption | wp_step))
      refine codeAny_mono (codeAny_call_builtin (R := wants (fun r s₂ => r = .none ∧ ∃ h' tk, s₂ = { s with heap := h', toks := tk } ∧ SetS P w h' s.heap.objs.size (uq (fun i => ys.getD i default) items.size) ∧ (∀ b o, b < s.heap.objs.size → s.heap.get? b = some o → h'.get? b = some o)) E)
        PySem.F.called_set.init.plain PySem.F.entry_set_init (check_set_init_1 hT ?_)) fun r₂ s₂ hr₂ => ?_
      · obtain ⟨ol, hol, hcl, nl, hdl⟩ := hl
        obtain ⟨ocls, odict, odata, oslots⟩ := ol
        simp only at hcl hdl
        subst hcl; subst hdl
        have hol' : (s.heap.push (freshO w)).get? l = some { cls := .type "list", dict := odict, data := .seq items nl, slots := oslots } := Heap.get?_push_of_some _ hol
        have hsls := PySem.F.sub_list_set
        have hslf := PySem.F.sub_list_frozenset
        have hne : (Value.type "list" == Value.type "dict") = false := by decide
        have hl1 : (s.heap.push (freshO w)).IsList l items := ⟨_, hol', rfl, nl, rfl⟩
        unfold freshO at hS hT hol' hl1 ⊢
        unfold Builtin.«set.__init__» noKeywords Builtin.Frozenset.updateFrom
        generalize hPI : pyIter = PI
        wp_walk
        subst hPI
        refine wpAny_pyIter_list hl1 ?_
        refine wpAny_bind (wpAny_runValue ?_)
        have hlS : l < s.heap.objs.size := Heap.lt_size hol
        have hh3 : A.in1.in1.in1.handled = none := by simp [hh]
        have hneI : l ≠ (s.heap.push (freshO w)).objs.size := by
          rw [Heap.size_push]; exact Nat.ne_of_lt (Nat.lt_succ_of_lt hlS)
        have hSf : s.heap.objs.size ∉ [(s.heap.push (freshO w)).objs.size, l] := by
          rw [Heap.size_push]; simp only [List.mem_cons, List.mem_singleton, List.not_mem_nil, or_false, not_or]
          exact ⟨Nat.ne_of_lt (Nat.lt_succ_self _), Nat.ne_of_gt hlS⟩
        refine set_loop ((Walks.list hh3 _ l hneI items).toS) s.heap.objs.size hSf (fun i => ys.getD i default) hi hb (items.size - 0) 0 _ (by omega) (Nat.zero_le _)
          ⟨⟨_, Heap.get?_push_size _ rfl, rfl, rfl⟩, (hl1.push _)⟩ ?hS0 ?hR
        case hS0 => exact (fresh_SetS s.heap).at' fun o e => Heap.get?_push_of_some _ e
        case hR =>
          intro s' hm hS'
          obtain ⟨h', g', d', tk', os'⟩ := s'
          have eg : g' = s.gens := hm.gens
          have ed : d' = s.drawn := hm.drawn
          have eo : os' = s.os := hm.os
          subst eg; subst ed; subst eo
          show wpAny _ _ _ _ _ _
          refine wpAny_pure ?_
          show wpAny _ _ (ret Value.none) _ _ _
          refine wpAny_pure ⟨rfl, h', tk', rfl, hS', fun b o hb e => ?_⟩
          have hb1 : b ≠ s.heap.objs.size := Nat.ne_of_lt hb
          have hb2 : b ≠ (s.heap.push (freshO w)).objs.size := by
            rw [Heap.size_push]; exact Nat.ne_of_lt (Nat.lt_succ_of_lt hb)
          exact hm.heap b o (by simp only [List.mem_cons, List.mem_singleton, List.not_mem_nil, or_false, not_or]; exact ⟨hb1, hb2⟩) (Heap.get?_push_of_some _ (Heap.get?_push_of_some _ e))
      · cases r₂ with
        | error e => exact hr₂
        | ok fl₂ =>
          cases fl₂ with
          | ret r =>
            obtain ⟨rfl, h', tk, rfl, hS', hk'⟩ := hr₂
            repeat (any_goals (first | assumption | wp_step))
            exact h _ _ hS' hk'
          | _ => exact hr₂.elim
    | _ => exact hr.elim
end
end L2

set_option maxHeartbeats 1000000
namespace L2
open PySem PySem.Spec PyProof.Rows PySem.W

/-! ### a set of texts is walked -/
theorem entry_setiter : entryFor table "set.__iter__" = some Builtin.«frozenset.__iter__» := entryFor_alias (id' := "frozenset.__iter__") (by kernel_rfl) rfl (by decide +kernel) (by kernel_rfl)
theorem slot_sit : Slot "set_iterator" "__next__" "set_iterator.__next__" := .of (owner := "set_iterator") (n := "__next__") (by rw [typeLookup_type, builtinLookup_eq_fast]; kernel_rfl) (by decide +kernel) (by decide +kernel) (by decide +kernel) (by first | exact .inl (by decide +kernel) | exact .inr (by decide +kernel)) (by rw [isSubtype_type]; kernel_rfl)
theorem entry_sit : entryFor table "set_iterator.__next__" = some Builtin.«set_iterator.__next__» := entryFor_of_tree (by kernel_rfl)
theorem args_sit (a : Value) : argsOk "set_iterator.__next__" ⟨[a], []⟩ := by
  unfold argsOk; kernel_rfl

theorem erase_perm {α : Type} : ∀ (l : List α) (i : Nat) (h : i < l.length), (l[i] :: l.eraseIdx i).Perm l
  | a :: l, 0, _ => .refl _
  | a :: l, i + 1, h => by
    have := erase_perm l i (by simpa using h)
    rw [List.eraseIdx_cons_succ, List.getElem_cons_succ]
    exact (List.Perm.swap _ _ _).trans (this.cons a)
section
variable {P : Program} {w : World} {A : Around} {E : Value → Shared → Prop}
theorem choose_any {s : Shared} {n : Nat} {Q : Nat → Shared → Prop} (h0 : n ≠ 0) (h : ∀ i d, i < n → Q i { s with drawn := d }) : wpAny (model P w) A (choose .order n) Q E s := fun Γ p hΓ => by
  unfold choose
  rw [Sem.wp_choose]
  exact ⟨h0, h _ _ (Nat.mod_lt _ (Nat.pos_of_ne_zero h0))⟩
theorem draw_any {α : Type} : ∀ (n : Nat) (xs : List α) (s : Shared) {Q : List α → Shared → Prop}, xs.length = n → (∀ ys d, ys.Perm xs → Q ys { s with drawn := d }) → wpAny (model P w) A (drawOrder n xs) Q E s
  | 0, [], s, Q, _, h => by
    unfold drawOrder
    exact wpAny_pure (h [] s.drawn (.refl _))
  | n + 1, x :: xs, s, Q, hl, h => by
    unfold drawOrder
    refine wpAny_bind (choose_any (by simp) fun i d hi => ?_)
    rw [List.getElem?_eq_getElem hi]
    dsimp only
    refine wpAny_bind (draw_any n ((x :: xs).eraseIdx i) _ (by rw [List.length_eraseIdx_of_lt hi]; simpa using hl) fun ys d' hp => ?_)
    exact wpAny_pure (h _ d' ((hp.cons _).trans (erase_perm _ i hi)))
theorem pick_go {α : Type} (next : Nat → Nat) : ∀ (n k : Nat) (left : List α) (out : Array α), left.length = n → (pickOrder.go next n k left out).toList.Perm (out.toList ++ left)
  | 0, k, left, out, h => by
    rw [List.eq_nil_of_length_eq_zero h, List.append_nil]
    exact .refl _
  | n + 1, k, left, out, h => by
    have hi : next k % left.length < left.length := Nat.mod_lt _ (by omega)
    unfold pickOrder.go
    rw [List.getElem?_eq_getElem hi]
    dsimp only
    refine (pick_go next n (k + 1) _ _ (by rw [List.length_eraseIdx_of_lt hi]; omega)).trans ?_
    rw [Array.toList_push, List.append_assoc]
    exact List.Perm.append_left _ (erase_perm left _ hi)
theorem pick_perm' {α : Type} (next : Nat → Nat) (xs : Array α) : (pickOrder next xs).toList.Perm xs.toList := by
  have := pick_go next xs.size 0 xs.toList #[] (by simp)
  simpa [pickOrder] using this
abbrev SIt (h : Heap) (it S : Addr) (first : Value) (i n ep : Nat) : Prop := h.get? it = some { cls := .type "set_iterator", dict := none, data := .fields #[first, .int i 0, .ref S, .int n 0, .int ep 0], slots := #[] }
variable {s : Shared} {it S : Addr} {o : Obj} {es : Array (Int × Value)} {ep n i : Nat} {t : SetTable}
theorem sit_slot {slot slot' : Nat} {x : Value} {Q : Option Value → Shared → Prop} (hit : SIt s.heap it S (rawInt slot) i n ep) (ho : s.heap.get? S = some o) (hd : o.data = .set es ep t) (hf : t.fits es.size = true) (hn : es.size = n)
    (hnext : ∀ (A : Around) (E : Value → Shared → Prop) (Q' : Option (Value × Nat) → Shared → Prop), Q' (some (x, slot')) s → wpAny (model P w) A (setNext S slot i ep) Q' E s)
    (hQ : ∀ h', SIt h' it S (rawInt slot') (i + 1) n ep → Heap.SameBut it s.heap h' → Q (some x) { s with heap := h' }) : wpAny (model P w) A (pyNext (.ref it)) Q E s := by
  have hT : s.TypeIs (.ref it) "set_iterator" := ⟨_, hit, rfl⟩
  unfold pyNext
  refine wpAny_bind (wpAny_attempt (wpAny_callSpecial?_slot (name := Str.ofString "__next__") hT slot_sit (wpAny_call_entry slot_sit hT entry_sit ?_ (args_sit _))))
  unfold Builtin.«set_iterator.__next__»
  refine wpAny_bind (wpAny_pure ?_)
  refine wpAny_bind (wpAny_fieldsOf hit rfl ?_)
  show wpAny _ _ (setEntries S >>= _) _ _ _
  refine wpAny_bind (wpAny_setEntries_of ho hd hf ?_)
  rw [if_neg (by rw [hn]; simp)]
  show wpAny _ _ (setNext S ((slot : Int).toNat) ((i : Int).toNat) ((ep : Int).toNat) >>= _) _ _ _
  rw [Int.toNat_natCast, Int.toNat_natCast, Int.toNat_natCast]
  refine wpAny_bind (hnext _ _ _ ?_)
  dsimp only
  refine wpAny_bind (wpAny_setField_rec hit (by simp) fun h1 e1 s1 => ?_)
  refine wpAny_bind (wpAny_setField_rec e1 (by simp) fun h2 e2 s2 => ?_)
  refine wpAny_pure ⟨_, rfl, wpAny_pure (hQ h2 ?_ (s1.trans s2))⟩
  have e : ((i + 1 : Nat) : Int) = (i : Int) + 1 := by omega
  show h2.get? it = _
  rw [e]
  simpa [rawInt] using e2
end
end L2

set_option maxHeartbeats 1000000
namespace L2
open PySem PySem.Spec PyProof.Rows PySem.W
section
variable {P : Program} {w : World} {A : Around} {E : Value → Shared → Prop} {s : Shared} {it S : Addr} {o : Obj} {es : Array (Int × Value)} {ep n i : Nat} {t : SetTable}
/-- the end of a walk: StopIteration is raised and taken -/
theorem stop_any {h0 : Heap} {Q : Option Value → Shared → Prop} (hh : A.handled = none) (hQ : ∀ h', (∀ b u, h0.get? b = some u → h'.get? b = some u) → Q none { s with heap := h' }) :
    wpAny (model P w) A.in1 (newExc (.type "StopIteration") [] >>= fun e => (raiseNew e : Sem PySem.Fin)) (fun _ _ => False) (fun e s' => wpAny (model P w) A (isInstance e (.type "StopIteration")) (fun b s2 => b = true ∧ Q none s2) E s') { s with heap := h0 } := by
  refine wpAny_bind ?_
  simp only [newExc, newTuple]
  refine wpAny_bind (wpAny_newObj_type ?_ (by size_fits))
  refine wpAny_bind (m := firstArgMember _ _) (wpAny_of_eq (a := Value.none) (by first | rfl | (simp only [firstArgMember]; rfl)) ?_)
  refine wpAny_newObj_type ?_ (by size_fits)
  simp only [raiseNew]
  refine wpAny_bind (wpAny_handled ?_)
  rw [show A.in1.handled = none from hh]
  refine wpAny_bind (wpAny_pure (wpAny_throw ?_))
  refine wpAny_isInstance (T := "StopIteration") (b := true) ⟨_, Heap.get?_push_size _ rfl, rfl⟩ isSubtype_stop ⟨rfl, ?_⟩
  exact hQ _ fun b u e => Heap.get?_push_of_some _ (Heap.get?_push_of_some _ e)
theorem sit_slot_end {slot : Nat} {Q : Option Value → Shared → Prop} (hh : A.handled = none) (hit : SIt s.heap it S (rawInt slot) i n ep) (ho : s.heap.get? S = some o) (hd : o.data = .set es ep t) (hf : t.fits es.size = true) (hn : es.size = n)
    (hnext : ∀ (A : Around) (E : Value → Shared → Prop) (Q' : Option (Value × Nat) → Shared → Prop), Q' none s → wpAny (model P w) A (setNext S slot i ep) Q' E s)
    (hQ : ∀ h', (∀ b u, b ≠ it → s.heap.get? b = some u → h'.get? b = some u) → Q none { s with heap := h' }) : wpAny (model P w) A (pyNext (.ref it)) Q E s := by
  have hT : s.TypeIs (.ref it) "set_iterator" := ⟨_, hit, rfl⟩
  unfold pyNext
  refine wpAny_bind (wpAny_attempt (wpAny_callSpecial?_slot (name := Str.ofString "__next__") hT slot_sit (wpAny_call_entry slot_sit hT entry_sit ?_ (args_sit _))))
  unfold Builtin.«set_iterator.__next__»
  refine wpAny_bind (wpAny_pure ?_)
  refine wpAny_bind (wpAny_fieldsOf hit rfl ?_)
  show wpAny _ _ (setEntries S >>= _) _ _ _
  refine wpAny_bind (wpAny_setEntries_of ho hd hf ?_)
  rw [if_neg (by rw [hn]; simp)]
  show wpAny _ _ (setNext S ((slot : Int).toNat) ((i : Int).toNat) ((ep : Int).toNat) >>= _) _ _ _
  rw [Int.toNat_natCast, Int.toNat_natCast, Int.toNat_natCast]
  refine wpAny_bind (hnext _ _ _ ?_)
  show wpAny _ _ (setField (.ref it) 2 .none >>= _) _ _ s
  refine wpAny_bind (wpAny_setField hit rfl (by simp) ?_)
  refine wpAny_mono (stop_any (P := P) (w := w) (A := A) (E := E) (s := s) (Q := Q) hh fun h' k => hQ h' fun b u hb e => k b u ?_) (fun _ _ z => z.elim) fun e s' z => ?_
  · exact (Heap.SameBut.update ..).extBut b u hb e
  · refine wpAny_bind (wpAny_mono z (fun b s2 ⟨e1, e2⟩ => ?_) fun _ _ y => y)
    subst e1
    exact wpAny_pure e2
end
end L2

set_option maxHeartbeats 1000000
namespace L2
open PySem PySem.Spec PyProof.Rows PySem.W
section
variable {P : Program} {w : World} {A : Around} {E : Value → Shared → Prop} {s : Shared} {it S tp : Addr} {o ot : Obj} {es : Array (Int × Value)} {ep n i m : Nat} {t : SetTable} {pl : Array Value}
theorem drawn_at {p : Nat} {h : Int} {x : Value} {Q : Value → Shared → Prop} (ho : s.heap.get? S = some o) (hd : o.data = .set es ep t) (hf : t.fits es.size = true) (he : es[p]? = some (h, x)) (q : Q x s) : wpAny (model P w) A (setNextDrawn S p ep) Q E s := by
  unfold setNextDrawn
  refine wpAny_bind (wpAny_setState_of ho hd hf ?_)
  dsimp only
  rw [if_neg (by simp)]
  rw [he]
  exact wpAny_pure q
theorem sit_draw {p : Nat} {h : Int} {x : Value} {Q : Option Value → Shared → Prop} (hit : SIt s.heap it S (.ref tp) i n ep) (htp : s.heap.get? tp = some ot) (hdt : ot.data = .seq pl m) (ho : s.heap.get? S = some o) (hd : o.data = .set es ep t) (hf : t.fits es.size = true) (hn : es.size = n)
    (hp : pl[i]? = some (rawInt p)) (he : es[p]? = some (h, x)) (hQ : ∀ h', SIt h' it S (.ref tp) (i + 1) n ep → Heap.SameBut it s.heap h' → Q (some x) { s with heap := h' }) : wpAny (model P w) A (pyNext (.ref it)) Q E s := by
  have hT : s.TypeIs (.ref it) "set_iterator" := ⟨_, hit, rfl⟩
  unfold pyNext
  refine wpAny_bind (wpAny_attempt (wpAny_callSpecial?_slot (name := Str.ofString "__next__") hT slot_sit (wpAny_call_entry slot_sit hT entry_sit ?_ (args_sit _))))
  unfold Builtin.«set_iterator.__next__»
  refine wpAny_bind (wpAny_pure ?_)
  refine wpAny_bind (wpAny_fieldsOf hit rfl ?_)
  show wpAny _ _ (setEntries S >>= _) _ _ _
  refine wpAny_bind (wpAny_setEntries_of ho hd hf ?_)
  rw [if_neg (by rw [hn]; simp)]
  show wpAny _ _ (seqItems? (.ref tp) >>= _) _ _ _
  refine wpAny_bind (wpAny_seqItems htp hdt ?_)
  show wpAny _ _ (match pl[(i : Int).toNat]? with | some (.int place _) => _ | some _ => _ | none => _) _ _ _
  rw [Int.toNat_natCast, hp]
  show wpAny _ _ (setNextDrawn S ((p : Int).toNat) ((ep : Int).toNat) >>= _) _ _ _
  rw [Int.toNat_natCast, Int.toNat_natCast]
  refine wpAny_bind (drawn_at ho hd hf he ?_)
  refine wpAny_bind (wpAny_setField_rec hit (by simp) fun h2 e2 s2 => ?_)
  refine wpAny_pure ⟨_, rfl, wpAny_pure (hQ h2 ?_ s2)⟩
  have e : ((i + 1 : Nat) : Int) = (i : Int) + 1 := by omega
  show h2.get? it = _
  rw [e]
  simpa [rawInt] using e2
theorem sit_draw_end {Q : Option Value → Shared → Prop} (hh : A.handled = none) (hit : SIt s.heap it S (.ref tp) i n ep) (htp : s.heap.get? tp = some ot) (hdt : ot.data = .seq pl m) (ho : s.heap.get? S = some o) (hd : o.data = .set es ep t) (hf : t.fits es.size = true) (hn : es.size = n)
    (hp : pl[i]? = none) (hQ : ∀ h', (∀ b u, b ≠ it → s.heap.get? b = some u → h'.get? b = some u) → Q none { s with heap := h' }) : wpAny (model P w) A (pyNext (.ref it)) Q E s := by
  have hT : s.TypeIs (.ref it) "set_iterator" := ⟨_, hit, rfl⟩
  unfold pyNext
  refine wpAny_bind (wpAny_attempt (wpAny_callSpecial?_slot (name := Str.ofString "__next__") hT slot_sit (wpAny_call_entry slot_sit hT entry_sit ?_ (args_sit _))))
  unfold Builtin.«set_iterator.__next__»
  refine wpAny_bind (wpAny_pure ?_)
  refine wpAny_bind (wpAny_fieldsOf hit rfl ?_)
  show wpAny _ _ (setEntries S >>= _) _ _ _
  refine wpAny_bind (wpAny_setEntries_of ho hd hf ?_)
  rw [if_neg (by rw [hn]; simp)]
  show wpAny _ _ (seqItems? (.ref tp) >>= _) _ _ _
  refine wpAny_bind (wpAny_seqItems htp hdt ?_)
  show wpAny _ _ (match pl[(i : Int).toNat]? with | some (.int place _) => _ | some _ => _ | none => _) _ _ _
  rw [Int.toNat_natCast, hp]
  show wpAny _ _ (setField (.ref it) 0 (rawInt 0) >>= _) _ _ s
  refine wpAny_bind (wpAny_setField_rec hit (by simp) fun h2 e2 s2 => ?_)
  refine wpAny_bind (wpAny_setField e2 rfl (by simp) ?_)
  refine wpAny_mono (stop_any (P := P) (w := w) (A := A) (E := E) (s := s) (Q := Q) hh fun h' k => hQ h' fun b u hb e => k b u ?_) (fun _ _ z => z.elim) fun e s' z => ?_
  · exact (Heap.SameBut.update ..).extBut b u hb (s2.extBut b u hb e)
  · refine wpAny_bind (wpAny_mono z (fun b s2 ⟨e1, e2⟩ => ?_) fun _ _ y => y)
    subst e1
    exact wpAny_pure e2
/-! ### what comes next in a table that is gone through by its slots -/
theorem next_text {slot g : Nat} {Q : Option (Value × Nat) → Shared → Prop} (hbt : w.params.followText "set-order" = true) (ho : s.heap.get? S = some o) (hd : o.data = .set es ep t) (hf : t.fits es.size = true)
    (q : Q (((pickOrder (w.params.setOrder S ep) es)[g]?).map fun e => (e.2, slot)) s) : wpAny (model P w) A (setNext S slot g ep) Q E s := by
  unfold setNext setWalk setsByText
  refine wpAny_bind (wpAny_setState_of ho hd hf ?_)
  dsimp only
  refine wpAny_bind (wpAny_bind (wpAny_askSetting (wpAny_pure ?_)))
  refine wpAny_ite_split (fun _ => ?_) (fun z => absurd hbt z)
  refine wpAny_ite_split (fun z => absurd z (by simp)) (fun _ => ?_)
  refine wpAny_bind (wpAny_bind (wpAny_setState_of ho hd hf ?_))
  dsimp only
  refine wpAny_bind (wpAny_bind (wpAny_askSetting (wpAny_pure ?_)))
  refine wpAny_ite_split (fun _ => ?_) (fun z => absurd hbt z)
  refine wpAny_bind (wpAny_askSetting (wpAny_pure ?_))
  exact wpAny_pure q
theorem next_led {slot g : Nat} {Q : Option (Value × Nat) → Shared → Prop} (hbt : w.params.followText "set-order" = false) (ho : s.heap.get? S = some o) (hd : o.data = .set es ep t) (hf : t.fits es.size = true) (hl : t.led = true) (h1 : es.size ≤ 1)
    (q : Q (match es[SetTable.below t.place slot]?, t.place[SetTable.below t.place slot]? with | some (_, x), some j => some (x, j + 1) | _, _ => none) s) : wpAny (model P w) A (setNext S slot g ep) Q E s := by
  unfold setNext setsByText
  refine wpAny_bind (wpAny_setState_of ho hd hf ?_)
  dsimp only
  refine wpAny_bind (wpAny_bind (wpAny_askSetting (wpAny_pure ?_)))
  refine wpAny_ite_split (fun z => absurd (hbt.symm.trans z) (fun y => nomatch y)) (fun _ => ?_)
  refine wpAny_ite_split (fun z => absurd z ?_) (fun _ => ?_)
  · show ¬ ((!t.plain && decide (es.size > 1)) = true)
    rw [decide_eq_false (by omega), Bool.and_false]
    exact Bool.false_ne_true
  refine wpAny_bind ?_
  show wpAny _ _ (if (!t.led && !es.isEmpty) = true then _ else _) _ _ _
  rw [if_neg (by rw [hl]; simp)]
  refine wpAny_pure ?_
  exact wpAny_pure q
end
end L2

set_option maxHeartbeats 1000000
namespace L2
open PySem PySem.Spec PyProof.Rows PySem.W
section
variable {P : Program} {w : World} {A : Around} {E : Value → Shared → Prop} {s : Shared} {S : Addr} {o : Obj} {es : Array (Int × Value)} {ep : Nat} {t : SetTable}
theorem draws_is {Q : Bool → Shared → Prop} (ho : s.heap.get? S = some o) (hd : o.data = .set es ep t) (hf : t.fits es.size = true) (q : Q (!w.params.followText "set-order" && (!t.plain && decide (es.size > 1))) s) : wpAny (model P w) A (setDrawn S) Q E s := by
  unfold setDrawn setsByText
  refine wpAny_bind (wpAny_setState_of ho hd hf ?_)
  dsimp only
  refine wpAny_bind (wpAny_bind (wpAny_askSetting (wpAny_pure ?_)))
  exact wpAny_pure q
theorem iter_any {Q : Value → Shared → Prop} (ho : s.heap.get? S = some o) (hex : o.ExactSet) (hd : o.data = .set es ep t) (hf : t.fits es.size = true) (hz : es.size ≤ 1000)
    (q0 : (!w.params.followText "set-order" && (!t.plain && decide (es.size > 1))) = false → Q (.ref s.heap.objs.size) { s with heap := s.heap.push { cls := .type "set_iterator", data := .fields #[rawInt 0, .int 0 0, .ref S, .int es.size 0, .int ep 0] } })
    (q1 : (!w.params.followText "set-order" && (!t.plain && decide (es.size > 1))) = true → ∀ (ys : List Nat) (d : Drawn), ys.Perm (List.range es.size) → Q (.ref (s.heap.objs.size + 1)) { s with heap := (s.heap.push { cls := .type "tuple", data := .seq (ys.map fun (i : Nat) => rawInt i).toArray }).push { cls := .type "set_iterator", data := .fields #[.ref s.heap.objs.size, .int 0 0, .ref S, .int es.size 0, .int ep 0] }, drawn := d }) :
    wpAny (model P w) A (pyIter (.ref S)) Q E s := by
  have hT : s.TypeIs (.ref S) "set" := ⟨o, ho, hex.1⟩
  refine wpAny_pyIter_slot hT PySem.F.slot_set_iter (wpAny_call_entry PySem.F.slot_set_iter hT entry_setiter ?_ (PySem.F.args_set_iter_1 _))
  unfold Builtin.«frozenset.__iter__» Builtin.Frozenset.slot0 slotArgs
  simp only [List.isEmpty_nil, Bool.not_true, Bool.false_eq_true, ↓reduceIte, bind_assoc, List.length_nil, bne_self_eq_false]
  unfold Builtin.Frozenset.addrOf Builtin.Frozenset.sizeOf
  refine wpAny_bind (wpAny_pure ?_)
  try dsimp only
  refine wpAny_bind (wpAny_pure ?_)
  refine wpAny_bind (wpAny_bind (wpAny_setEntries_of ho hd hf (wpAny_pure ?_)))
  refine wpAny_bind (draws_is ho hd hf ?_)
  cases hb : (!w.params.followText "set-order" && (!t.plain && decide (es.size > 1))) with
  | false =>
    simp only [Bool.false_eq_true, if_false]
    refine wpAny_bind (wpAny_pure ?_)
    refine wpAny_bind (wpAny_setEpoch_of ho hd hf ?_)
    refine wpAny_bind (wpAny_newObj_type (wpAny_pure ⟨_, rfl, "set_iterator", _, ⟨_, Heap.get?_push_size _ rfl, rfl⟩, slot_sit.lookup, ?_⟩) ?_)
    · exact q0 hb
    · simp only [sizeOk, List.size_toArray, List.length_cons, List.length_nil, sizeLine_eq]; omega
  | true =>
    simp only [if_true]
    refine wpAny_bind (draw_any es.size (List.range es.size) _ List.length_range fun ys d hp => ?_)
    have hl : ys.length ≤ 1000 := by rw [hp.length_eq]; simpa using hz
    refine wpAny_bind (wpAny_newTuple ?_ (by rw [List.length_map, sizeLine_eq]; omega))
    have ho' : (s.heap.push { cls := .type "tuple", data := .seq (ys.map fun (i : Nat) => rawInt i).toArray }).get? S = some o := Heap.get?_push_of_some _ ho
    refine wpAny_bind (wpAny_setEpoch_of ho' hd hf ?_)
    refine wpAny_bind (wpAny_newObj_type (wpAny_pure ⟨_, rfl, "set_iterator", _, ⟨_, Heap.get?_push_size _ rfl, rfl⟩, slot_sit.lookup, ?_⟩) ?_)
    · have := q1 hb ys d hp
      rw [Heap.size_push]
      exact this
    · simp only [sizeOk, List.size_toArray, List.length_cons, List.length_nil, sizeLine_eq]; omega
end
end L2

set_option maxHeartbeats 1000000
namespace L2
open PySem PySem.Spec PyProof.Rows PySem.W
/-- an iterator that hands out vs -/
structure Wk (P : Program) (w : World) (it : Addr) (fp : List Addr) (vs : List Value) (St : Nat → Heap → Prop) : Prop where
  keep : ∀ i h h', St i h → (∀ b ∈ fp, ∀ u, h.get? b = some u → h'.get? b = some u) → St i h'
  item : ∀ (i : Nat) (s : Shared) (A : Around) (Q : Option Value → Shared → Prop) (E : Value → Shared → Prop) (x : Value), St i s.heap → vs[i]? = some x →
    (∀ h', St (i + 1) h' → (∀ b u, b ≠ it → s.heap.get? b = some u → h'.get? b = some u) → Q (some x) { s with heap := h' }) → wpAny (model P w) A (pyNext (.ref it)) Q E s
  done : ∀ (s : Shared) (A : Around) (Q : Option Value → Shared → Prop) (E : Value → Shared → Prop), A.handled = none → St vs.length s.heap →
    (∀ h', (∀ b u, b ≠ it → s.heap.get? b = some u → h'.get? b = some u) → Q none { s with heap := h' }) → wpAny (model P w) A (pyNext (.ref it)) Q E s
section
variable {P : Program} {w : World} {it S tp : Addr} {o ot : Obj} {es : Array (Int × Value)} {ep m : Nat} {t : SetTable}
theorem wk_text (hbt : w.params.followText "set-order" = true) (hd : o.data = .set es ep t) (hf : t.fits es.size = true) (hne : S ≠ it) :
    Wk P w it [it, S] ((pickOrder (w.params.setOrder S ep) es).toList.map (·.2)) (fun i h => SIt h it S (rawInt 0) i es.size ep ∧ h.get? S = some o) where
  keep := fun i h h' st k => ⟨k it (by simp) _ st.1, k S (by simp) _ st.2⟩
  item := fun i s A Q E x st hx hQ => by
    have hx' : ((pickOrder (w.params.setOrder S ep) es)[i]?).map (fun e => (e.2, 0)) = some (x, 0) := by
      rw [List.getElem?_map, Array.getElem?_toList] at hx
      cases e : (pickOrder (w.params.setOrder S ep) es)[i]? with
      | none => rw [e] at hx; cases hx
      | some y => rw [e] at hx; have := Option.some.inj hx; rw [← this]; rfl
    exact sit_slot (slot' := 0) st.1 st.2 hd hf rfl (fun A E Q' q => next_text hbt st.2 hd hf (by rw [hx']; exact q)) fun h' hit' sb => hQ h' ⟨hit', (sb.2 S hne).trans st.2⟩ fun b u hb e => (sb.2 b hb).trans e
  done := fun s A Q E hh st hQ => by
    refine sit_slot_end hh st.1 st.2 hd hf rfl (fun A E Q' q => next_text hbt st.2 hd hf ?_) hQ
    have e : (pickOrder (w.params.setOrder S ep) es)[((pickOrder (w.params.setOrder S ep) es).toList.map (·.2)).length]? = none := by
      rw [List.length_map, Array.length_toList]
      exact Array.getElem?_eq_none (Nat.le_refl _)
    rw [e]; exact q
theorem arr_one {α : Type} {a : Array α} (h : a.size = 1) : ∃ x, a = #[x] := by
  cases a with
  | mk l => match l, h with | [x], _ => exact ⟨x, rfl⟩
theorem below_one (j k : Nat) : SetTable.below #[j] k = if j < k then 1 else 0 := by
  unfold SetTable.below
  show SetTable.below.go #[j] k 1 0 1 = _
  unfold SetTable.below.go
  rw [if_pos (by decide)]
  show (if j < k then SetTable.below.go #[j] k 0 1 1 else SetTable.below.go #[j] k 0 0 0) = _
  split
  · rfl
  · rfl
theorem wk_led (hbt : w.params.followText "set-order" = false) (hd : o.data = .set es ep t) (hf : t.fits es.size = true) (hl : t.led = true) (h1 : es.size ≤ 1) (hne : S ≠ it) :
    Wk P w it [it, S] (es.toList.map (·.2)) (fun i h => SIt h it S (rawInt ((if i = 0 then 0 else t.place.getD 0 0 + 1 : Nat))) i es.size ep ∧ h.get? S = some o) where
  keep := fun i h h' st k => ⟨k it (by simp) _ st.1, k S (by simp) _ st.2⟩
  item := fun i s A Q E x st hx hQ => by
    have hi : i < es.size := by have := (List.getElem?_eq_some_iff.mp hx).1; simpa using this
    have i0 : i = 0 := by omega
    subst i0
    have n1 : es.size = 1 := by omega
    have ps : t.place.size = 1 := by
      have := hf
      simp only [SetTable.fits, Bool.and_eq_true, beq_iff_eq] at this
      rw [this.1, n1]
    obtain ⟨j, hj⟩ := arr_one ps
    obtain ⟨y, hy⟩ := arr_one n1
    have ex : y.2 = x := by
      rw [hy] at hx
      simpa using hx
    refine sit_slot (slot := 0) (slot' := j + 1) st.1 st.2 hd hf rfl (fun A E Q' q => next_led hbt st.2 hd hf hl h1 ?_) fun h' hit' sb => hQ h' ⟨?_, (sb.2 S hne).trans st.2⟩ fun b u hb e => (sb.2 b hb).trans e
    · have b0 : SetTable.below t.place 0 = 0 := by rw [hj, below_one, if_neg (Nat.not_lt_zero _)]
      rw [b0, hj, hy]
      show Q' (some (y.2, j + 1)) s
      rw [ex]; exact q
    · have e : t.place.getD 0 0 = j := by rw [hj]; rfl
      show SIt h' it S (rawInt ((if (0 + 1 : Nat) = 0 then 0 else t.place.getD 0 0 + 1 : Nat))) (0 + 1) es.size ep
      rw [if_neg (by decide), e]
      exact hit'
  done := fun s A Q E hh st hQ => by
    refine sit_slot_end hh st.1 st.2 hd hf rfl (fun A E Q' q => next_led hbt st.2 hd hf hl h1 ?_) hQ
    have ps : t.place.size = es.size := by
      have := hf
      simp only [SetTable.fits, Bool.and_eq_true, beq_iff_eq] at this
      exact this.1
    have e : es[SetTable.below t.place (if (es.toList.map (·.2)).length = 0 then 0 else t.place.getD 0 0 + 1)]? = none := by
      rw [List.length_map, Array.length_toList]
      by_cases z : es.size = 0
      · exact Array.getElem?_eq_none (by omega)
      · have n1 : es.size = 1 := by omega
        rw [n1] at ps
        obtain ⟨j, hj⟩ := arr_one ps
        rw [if_neg z, hj]
        have e2 : (#[j] : Array Nat).getD 0 0 = j := rfl
        rw [e2, below_one, if_pos (Nat.lt_succ_self _)]
        exact Array.getElem?_eq_none (by omega)
    rw [e]; exact q
theorem wk_draw {ys : List Nat} (hp : ys.Perm (List.range es.size)) (hdt : ot.data = .seq (ys.map fun (i : Nat) => rawInt i).toArray m) (hd : o.data = .set es ep t) (hf : t.fits es.size = true) (hne : S ≠ it) (hte : tp ≠ it) :
    Wk P w it [it, S, tp] (ys.map fun p => (es.getD p (0, Value.none)).2) (fun i h => SIt h it S (.ref tp) i es.size ep ∧ h.get? S = some o ∧ h.get? tp = some ot) where
  keep := fun i h h' st k => ⟨k it (by simp) _ st.1, k S (by simp) _ st.2.1, k tp (by simp) _ st.2.2⟩
  item := fun i s A Q E x st hx hQ => by
    rw [List.getElem?_map] at hx
    cases e : ys[i]? with
    | none => rw [e] at hx; cases hx
    | some p =>
      rw [e] at hx
      have hx' : (es.getD p (0, Value.none)).2 = x := Option.some.inj hx
      have hlt : p < es.size := List.mem_range.mp (hp.mem_iff.mp (List.mem_of_getElem? e))
      have he : es[p]? = some ((es.getD p (0, Value.none)).1, x) := by
        rw [← hx']
        simp [Array.getD, hlt]
      refine sit_draw st.1 st.2.2 hdt st.2.1 hd hf rfl (p := p) ?_ he fun h' hit' sb => hQ h' ⟨hit', (sb.2 S hne).trans st.2.1, (sb.2 tp hte).trans st.2.2⟩ fun b u hb e => (sb.2 b hb).trans e
      rw [List.getElem?_toArray, List.getElem?_map, e]; rfl
  done := fun s A Q E hh st hQ => by
    refine sit_draw_end hh st.1 st.2.2 hdt st.2.1 hd hf rfl ?_ hQ
    rw [List.getElem?_toArray]
    exact List.getElem?_eq_none (by simp)
end
end L2

set_option maxHeartbeats 1000000
namespace L2
open PySem PySem.Spec PyProof.Rows PySem.W
section
variable {P : Program} {w : World} {A : Around} {E : Value → Shared → Prop} {s : Shared} {S : Addr} {xs : List Str}
theorem vals_txt : ∀ {l : List (Int × Value)}, ElemsOf (PySem.strKind P w) l → Vals ((l.map txtOf).map V.str) (l.map (·.2))
  | [], _ => .nil
  | e :: l, h => by
    obtain ⟨⟨k, hk, _⟩, _⟩ := h.head
    obtain ⟨tk, ht⟩ := Value.isStrOf_shape hk
    refine .cons ?_ (vals_txt h.tail)
    show ∃ t, e.2 = Value.str (txtOf e) t
    exact ⟨tk, by rw [txt_of_is hk]; exact ht⟩
/-- iter(S): an iterator that hands out the texts in some order -/
theorem iter_walk {Q : Value → Shared → Prop} (hS : SetS P w s.heap S xs) (hx : xs.length ≤ 1000)
    (q : ∀ (h' : Heap) (d : Drawn) (it : Addr) (fp : List Addr) (vs : List Value) (os : List Str) (St : Nat → Heap → Prop), (∀ b u, s.heap.get? b = some u → h'.get? b = some u) → Wk P w it fp vs St → St 0 h' → (∀ b ∈ fp, b = S ∨ s.heap.objs.size ≤ b) → s.heap.objs.size ≤ it → Vals (os.map V.str) vs → os.Perm xs → Q (.ref it) { s with heap := h', drawn := d }) :
    wpAny (model P w) A (pyIter (.ref S)) Q E s := by
  obtain ⟨o, es, ep, t, ho, hex, hd, hel, hb, hf, hl, hpl, hp⟩ := hS
  have sz : es.size = xs.length := by rw [← hp.length_eq, List.length_map, Array.length_toList]
  have hlt : S < s.heap.objs.size := Heap.lt_size ho
  refine iter_any ho hex hd hf (by omega) (fun hb0 => ?_) (fun hb1 ys d hys => ?_)
  · have e0 : s = { s with drawn := s.drawn } := by cases s; rfl
    have ne : S ≠ s.heap.objs.size := Nat.ne_of_lt hlt
    have go := q (s.heap.push { cls := .type "set_iterator", data := .fields #[rawInt 0, .int 0 0, .ref S, .int es.size 0, .int ep 0] }) s.drawn s.heap.objs.size [s.heap.objs.size, S]
    have fpo : ∀ b ∈ [s.heap.objs.size, S], b = S ∨ s.heap.objs.size ≤ b := fun b hb => by
      rcases List.mem_cons.mp hb with rfl | hb
      · exact .inr (Nat.le_refl _)
      · exact .inl (List.mem_singleton.mp hb)
    cases hbt : w.params.followText "set-order" with
    | true =>
      have pm := pick_perm' (w.params.setOrder S ep) es
      exact go _ ((pickOrder (w.params.setOrder S ep) es).toList.map txtOf) _ (fun b u e => Heap.get?_push_of_some _ e) (wk_text hbt hd hf ne) ⟨Heap.get?_push_size _ rfl, Heap.get?_push_of_some _ ho⟩ fpo (Nat.le_refl _) (vals_txt (hel.perm pm)) ((pm.map _).trans hp)
    | false =>
      have h1 : es.size ≤ 1 := by
        rw [hbt] at hb0
        by_cases z : es.size > 1
        · rw [decide_eq_true z] at hb0
          cases pz : t.plain with
          | true => have := hpl pz; omega
          | false => rw [pz] at hb0; cases hb0
        · omega
      exact go _ (es.toList.map txtOf) _ (fun b u e => Heap.get?_push_of_some _ e) (wk_led hbt hd hf (by rw [hl, hbt]; rfl) h1 ne) ⟨Heap.get?_push_size _ rfl, Heap.get?_push_of_some _ ho⟩ fpo (Nat.le_refl _) (vals_txt hel) hp
  · have hsz : (s.heap.push { cls := .type "tuple", data := .seq (ys.map fun (i : Nat) => rawInt i).toArray }).objs.size = s.heap.objs.size + 1 := Heap.size_push ..
    have ne : S ≠ s.heap.objs.size + 1 := Nat.ne_of_lt (Nat.lt_succ_of_lt hlt)
    have ne2 : s.heap.objs.size ≠ s.heap.objs.size + 1 := Nat.ne_of_lt (Nat.lt_succ_self _)
    have itAt : ((s.heap.push { cls := .type "tuple", data := .seq (ys.map fun (i : Nat) => rawInt i).toArray }).push { cls := .type "set_iterator", data := .fields #[.ref s.heap.objs.size, .int 0 0, .ref S, .int es.size 0, .int ep 0] }).get? (s.heap.objs.size + 1) = some { cls := .type "set_iterator", dict := none, data := .fields #[.ref s.heap.objs.size, .int 0 0, .ref S, .int es.size 0, .int ep 0], slots := #[] } := by
      rw [← hsz]; exact Heap.get?_push_size _ rfl
    have perm2 : (ys.map fun p => es.getD p (0, Value.none)).Perm es.toList := by
      refine (hys.map _).trans ?_
      have e : (List.range es.size).map (fun p => es.getD p (0, Value.none)) = es.toList := by
        apply List.ext_getElem
        · simp
        · intro i h1 h2
          have hi : i < es.size := by simpa using h1
          simp [Array.getD, hi]
      rw [e]
    have vs := vals_txt (hel.perm perm2)
    rw [List.map_map (g := fun x : Int × Value => x.2)] at vs
    refine q _ d (s.heap.objs.size + 1) [s.heap.objs.size + 1, S, s.heap.objs.size] _ ((ys.map fun p => es.getD p (0, Value.none)).map txtOf) _ (fun b u e => Heap.get?_push_of_some _ (Heap.get?_push_of_some _ e)) (wk_draw (tp := s.heap.objs.size) (m := 0) (ot := { cls := .type "tuple", data := .seq (ys.map fun (i : Nat) => rawInt i).toArray }) hys rfl hd hf ne ne2)
      ⟨itAt, Heap.get?_push_of_some _ (Heap.get?_push_of_some _ ho), Heap.get?_push_of_some _ (Heap.get?_push_size _ rfl)⟩ (fun b hb => ?_) (Nat.le_succ _) vs ((perm2.map _).trans hp)
    simp only [List.mem_cons, List.not_mem_nil, or_false] at hb
    rcases hb with rfl | rfl | rfl
    · exact .inr (Nat.le_succ _)
    · exact .inl rfl
    · exact .inr (Nat.le_refl _)
variable {R : Result → Shared → Prop} {it L : Addr} {fp : List Addr} {vs : List Value} {St : Nat → Heap → Prop}
theorem ext_loop (W : Wk P w it fp vs St) (hh : A.handled = none) (hL : L ∉ fp) (hLi : L ≠ it) (hn : vs.length ≤ 1000) (res : Value) {h₁ : Heap}
    (hR : ∀ h' tk c acc, (∀ b u, b ≠ L → b ≠ it → h₁.get? b = some u → h'.get? b = some u) → h'.get? L = some { cls := .type "list", dict := none, data := .seq acc c, slots := #[] } → acc.toList = vs → R (.ok (.ret res)) { s with heap := h', toks := tk }) :
    ∀ (k i : Nat) (h : Heap) (tk c : Nat) (acc : Array Value), vs.length - i = k → i ≤ vs.length → St i h → (∀ b u, b ≠ L → b ≠ it → h₁.get? b = some u → h.get? b = some u) → h.get? L = some { cls := .type "list", dict := none, data := .seq acc c, slots := #[] } → acc.toList = vs.take i →
      codeAny (model P w) A (.builtin "list.extend.loop" ⟨[.ref L, .ref it, res], []⟩) R { s with heap := h, toks := tk } := by
  intro k
  induction k with
  | zero =>
    intro i h tk c acc hk hi st kp hl ha
    obtain rfl : i = vs.length := by omega
    refine codeAny_builtin PySem.F.entry_extend_loop ?_
    rw [Around.under_plainId PySem.F.plain_extend_loop _]
    show wpAny _ A.in1 (pyNext (.ref it) >>= _) _ _ _
    refine wpAny_bind (W.done { s with heap := h, toks := tk } A.in1 _ _ hh st fun h' k' => ?_)
    exact wpAny_pure (hR h' tk c acc (fun b u h1 h2 e => k' b u h2 (kp b u h1 h2 e)) (k' L _ hLi hl) (by rw [ha, List.take_length]))
  | succ k ih =>
    intro i h tk c acc hk hi st kp hl ha
    have hlt : i < vs.length := by omega
    have hsz : acc.size = i := by rw [← Array.length_toList, ha, List.length_take]; omega
    refine codeAny_builtin PySem.F.entry_extend_loop ?_
    rw [Around.under_plainId PySem.F.plain_extend_loop _]
    show wpAny _ A.in1 (pyNext (.ref it) >>= _) _ _ _
    refine wpAny_bind (W.item i { s with heap := h, toks := tk } A.in1 _ _ vs[i] st (List.getElem?_eq_getElem hlt) fun h' st' k' => ?_)
    dsimp only at k' ⊢
    have hl' := k' L _ hLi hl
    have up : ∀ b u, b ≠ L → h'.get? b = some u → (h'.update L (Obj.mapSeq (·.push vs[i]))).get? b = some u := fun b u hb e => (Heap.get?_update_other _ _ (Ne.symm hb)).trans e
    show wpAny _ A.in1 (updateSeq L (·.push vs[i]) >>= _) _ _ _
    refine wpAny_bind ?_
    refine wpAny_updateSeq hl' rfl (wpAny_pure ⟨plainId_quiet PySem.F.plain_extend_loop _, ih (i + 1) _ tk _ (acc.push vs[i]) (by omega) hlt (W.keep _ _ _ st' fun b hb u e => up b u (fun z => hL (z ▸ hb)) e) (fun b u h1 h2 e => up b u h1 (k' b u h2 (kp b u h1 h2 e))) (Heap.get?_update_self _ hl' rfl) ?_⟩) (by rw [hsz, sizeLine_eq]; omega) (by show (acc.push vs[i]).size ≤ sizeLine + 1; rw [Array.size_push, hsz, sizeLine_eq]; omega)
    rw [Array.toList_push, ha, List.take_add_one, List.getElem?_eq_getElem hlt]; rfl
theorem hint_set (hT : s.TypeIs (.ref S) "set") {Q : Bool → Shared → Prop} (h : Q false s) : wpAny (model P w) A (Builtin.List.listLengthHint (.ref S)) Q E s := by
  unfold Builtin.List.listLengthHint
  refine wpAny_bind (wpAny_specialOf hT PySem.F.slot_set_len.lookup ?_)
  generalize hid : ("set.__len__" : String) = id0
  wp_delta
  rw [show splitId id0 = some ("set", "__len__") from by subst hid; decide +kernel]
  subst hid
  refine wpAny_bind (wpAny_isInstance (T := "set") (b := true) hT (by rw [isSubtype_type]; kernel_rfl) ?_)
  refine wpAny_ite_split (fun hab => absurd hab (by decide)) (fun _ => ?_)
  refine wpAny_ite_split (fun _ => ?_) (fun hab => absurd (by decide +kernel) hab)
  refine wpAny_bind (wpAny_typeOf hT ?_)
  exact wpAny_pure h
end
end L2

set_option maxHeartbeats 1000000
namespace L2
open PySem PySem.Spec PyProof.Rows PySem.W
section
variable {P : Program} {w : World} {A : Around} {E : Value → Shared → Prop} {s : Shared} {S : Addr} {xs : List Str}
theorem ext_set {R : Result → Shared → Prop} (hh : A.handled = none) (hS : SetS P w s.heap S xs) (hx : xs.length ≤ 1000) (L : Addr) (hLS : L ≠ S) (res : Value) (hL : s.heap.get? L = some { cls := .type "list", data := .seq #[] })
    (hR : ∀ (h' : Heap) (d : Drawn) (tk c : Nat) (acc : Array Value) (os : List Str), (∀ b u, b ≠ L → s.heap.get? b = some u → h'.get? b = some u) → h'.get? L = some { cls := .type "list", dict := none, data := .seq acc c, slots := #[] } → Vals (os.map V.str) acc.toList → os.Perm xs → R (.ok (.ret res)) { s with heap := h', toks := tk, drawn := d }) :
    wpAny (model P w) A.in1 (Builtin.List.listExtendWith (.ref L) (.ref S) res) (fun fin s' => match fin with | .done f => R (.ok f) s' | .again c' => c'.quiet = true ∧ codeAny (model P w) A c' R s') (fun e s' => R (.error e) s') s := by
  have hT : s.TypeIs (.ref S) "set" := let ⟨o, _, _, _, ho, hex, _⟩ := hS; ⟨o, ho, hex.1⟩
  have lL : L < s.heap.objs.size := Heap.lt_size hL
  unfold Builtin.List.listExtendWith
  refine wpAny_bind (wpAny_typeOf (T := "set") hT ?_)
  have h1 : Builtin.List.listSameRef (.ref L) (.ref S) = false := by simp [Builtin.List.listSameRef, hLS]
  have h2 : (Value.type "set" == Value.type "list") = false := by decide
  have h3 : (Value.type "set" == Value.type "tuple") = false := by decide
  simp only [h1, h2, h3, Bool.or_false, Bool.false_eq_true, if_false]
  refine wpAny_bind (iter_walk hS hx fun h1 d it fp vs os St k1 W st hfp hit rv hp => ?_)
  have hLf : L ∉ fp := fun z => by
    rcases hfp L z with e | e
    · exact hLS e
    · exact absurd lL (Nat.not_lt.mpr e)
  have hLi : L ≠ it := fun z => absurd lL (Nat.not_lt.mpr (z ▸ hit))
  have hvs : vs.length ≤ 1000 := by
    have := rv.length
    rw [List.length_map] at this
    rw [← this, hp.length_eq]; exact hx
  have key : ∀ (h : Heap) (c tk : Nat), (∀ b u, b ≠ L → h1.get? b = some u → h.get? b = some u) → h.get? L = some { cls := .type "list", data := .seq #[] c } → codeAny (model P w) A (.builtin "list.extend.loop" ⟨[.ref L, .ref it, res], []⟩) R { s with heap := h, toks := tk, drawn := d } := by
    intro h c tk hk hL1
    refine ext_loop (s := { s with drawn := d }) W hh hLf hLi hvs res (h₁ := s.heap) (fun h' tk' c' acc k' hl' ha => ?_) vs.length 0 h tk c #[] (Nat.sub_zero _) (Nat.zero_le _) (W.keep _ _ _ st fun b hb u e => hk b u (fun z => hLf (z ▸ hb)) e) (fun b u hb _ e => hk b u hb (k1 b u e)) hL1 rfl
    refine hR h' d tk' c' acc os (fun b u hb e => k' b u hb (fun z => absurd (Heap.lt_size e) (Nat.not_lt.mpr (z ▸ hit))) e) hl' (by rw [ha]; exact rv) hp
  have hL1 := k1 L _ hL
  have hT1 : Shared.TypeIs { s with heap := h1, drawn := d } (.ref S) "set" := let ⟨o, ho, hc⟩ := hT; ⟨o, k1 S o ho, hc⟩
  refine wpAny_bind (wpAny_holding (hint_set hT1 ?_))
  refine wpAny_ite_split (fun _ => ?_) (fun _ => wpAny_pure ⟨plainId_quiet PySem.F.plain_extend_loop _, key _ _ _ (fun b u _ e => e) hL1⟩)
  refine wpAny_bind (wpAny_rule ?_)
  refine wpAny_bind ?_
  show wpAny _ _ (updateSeq L (·.push .none) >>= fun _ => updateSeq L (·.pop)) _ _ _
  refine wpAny_bind (wpAny_updateSeq hL1 rfl ?_)
  have hL2 := Heap.get?_update_self (Obj.mapSeq (·.push Value.none)) hL1 rfl
  refine wpAny_updateSeq (hz := by seq_fits) hL2 rfl ?_
  have hL3 := Heap.get?_update_self (Obj.mapSeq (·.pop)) hL2 rfl
  refine wpAny_pure ⟨plainId_quiet PySem.F.plain_extend_loop _, key _ _ _ (fun b u hb e => ?_) hL3⟩
  exact (Heap.get?_update_other _ _ (Ne.symm hb)).trans ((Heap.get?_update_other _ _ (Ne.symm hb)).trans e)
theorem collect_set {R : List Value → Shared → Prop} (hh : A.handled = none) (hS : SetS P w s.heap S xs) (hx : xs.length ≤ 1000)
    (h : ∀ (h' : Heap) (d : Drawn) (tk : Nat) (vs : List Value) (os : List Str), (∀ b u, s.heap.get? b = some u → h'.get? b = some u) → Vals (os.map V.str) vs → os.Perm xs → R vs { s with heap := h', toks := tk, drawn := d }) :
    wpAny (model P w) A (collect (.ref S)) R E s := by
  have hlt : S < s.heap.objs.size := let ⟨o, _, _, _, ho, _⟩ := hS; Heap.lt_size ho
  unfold collect
  refine wpAny_bind (wpAny_runValue (codeAny_builtin entry_proto_collect' ?_))
  rw [Around.under_plainId PySem.F.plain_proto_collect _]
  show wpAny _ A.in1 (newList [] >>= fun l => again (.builtin "list.__iadd__" ⟨[l, .ref S], []⟩)) _ _ s
  refine wpAny_bind (wpAny_newObj_type ?_)
  refine wpAny_pure ⟨plainId_quiet PySem.F.plain_list_iadd _, codeAny_builtin entry_list_iadd' ?_⟩
  rw [Around.under_plainId PySem.F.plain_list_iadd _]
  have hL1 : (s.heap.push { cls := .type "list", data := .seq ([] : List Value).toArray }).get? s.heap.objs.size = some { cls := .type "list", data := .seq #[] } := Heap.get?_push_size _ rfl
  show wpAny _ A.in1 (Builtin.List.listExtendWith (.ref s.heap.objs.size) (.ref S) (.ref s.heap.objs.size)) _ _ _
  have key := ext_set (A := A) (s := { s with heap := s.heap.push { cls := .type "list", data := .seq ([] : List Value).toArray } })
    (R := fun (q : Result) (s' : Shared) => ∃ (h' : Heap) (d : Drawn) (tk c : Nat) (acc : Array Value) (os : List Str), q = .ok (.ret (.ref s.heap.objs.size)) ∧ s' = { s with heap := h', toks := tk, drawn := d } ∧ (∀ b u, s.heap.get? b = some u → h'.get? b = some u) ∧ h'.get? s.heap.objs.size = some { cls := .type "list", dict := none, data := .seq acc c, slots := #[] } ∧ Vals (os.map V.str) acc.toList ∧ os.Perm xs)
    hh (hS.at' fun o e => Heap.get?_push_of_some _ e) hx s.heap.objs.size (Nat.ne_of_gt hlt) (.ref s.heap.objs.size) hL1
    (fun h' d tk c acc os k hl rv hp => ⟨h', d, tk, c, acc, os, rfl, rfl, fun b u e => k b u (Nat.ne_of_lt (Heap.lt_size e)) (Heap.get?_push_of_some _ e), hl, rv, hp⟩)
  refine wpAny_mono key (fun fin s' x => ?_) fun e s' x => ?_
  · cases fin with
    | done f =>
      obtain ⟨h', d, tk, c, acc, os, e, rfl, k, hl, rv, hp⟩ := x
      cases e
      show wpAny _ A (load s.heap.objs.size >>= _) _ _ _
      refine wpAny_bind (wpAny_load hl ?_)
      exact wpAny_pure (h h' d tk acc.toList os k rv hp)
    | again c₁ =>
      refine ⟨x.1, codeAny_mono x.2 fun q s₂ y => ?_⟩
      obtain ⟨h', d, tk, c, acc, os, rfl, rfl, k, hl, rv, hp⟩ := y
      show wpAny _ A (load s.heap.objs.size >>= _) _ _ _
      refine wpAny_bind (wpAny_load hl ?_)
      exact wpAny_pure (h h' d tk acc.toList os k rv hp)
  · obtain ⟨_, _, _, _, _, _, e', _⟩ := x
    cases e'
end
/-! ### a tracked list of texts is sorted where it lies -/
def txLt (a b : Str) : Prop := a.cps.toList < b.cps.toList
section
variable {X : Cx} {pins : List (Addr × Obj)} {σ : St} {H : Hp} {s : Shared}
theorem strs_at {ps : List Str} {its : List Value} (rv : Vals (ps.map V.str) its) (i : Nat) (hi : i < ps.length) : ∃ t, its.getD i .none = Value.str (ps.getD i default) t := by
  obtain ⟨u, hu, ru⟩ := Vals.get (i := i) (x := V.str ps[i]) rv (by rw [List.getElem?_map, List.getElem?_eq_getElem hi]; rfl)
  obtain ⟨t, rfl⟩ := (show ∃ t, u = Value.str ps[i] t from ru)
  exact ⟨t, by simp [List.getD, hu, hi]⟩
theorem lsort_str {A : Around} {E : Value → Shared → Prop} {l : Addr} {ps : List Str} {Q : Value → Shared → Prop} (I : Inv X pins σ H s) (hq : H l = some (.lst (ps.map V.str))) (nd : ps.Nodup) (h64 : ps.length < 64)
    (q : ∀ (qs : List Str) (h' : Heap), qs.Perm ps → qs.Pairwise txLt → Inv X pins σ (upd H l (.lst (qs.map V.str))) { s with heap := h' } → Q .none { s with heap := h' }) : wpAny (model X.prog X.w) A (call (.builtin "list.sort") [.ref l]) Q E s := by
  obtain ⟨hz, its, n, rv, at0⟩ := (show ObjOk X.prog X.w H s.heap l (.lst (ps.map V.str)) from I.hok l _ hq)
  have li : its.length = ps.length := by have := rv.length; rw [List.length_map] at this; exact this.symm
  obtain ⟨m, hm, _⟩ := I.loc
  have nL : l ≠ X.env.locals := fun z => by rw [z, I.free] at hq; cases hq
  by_cases few : ps.length < 2
  · refine wpAny_call_entry slot_list_sort ⟨_, at0, rfl⟩ entry_list_sort (list_sort_few at0 (by omega) fun hp ep k2 e2 => ⟨_, rfl, ?_⟩) (args_list_sort _)
    refine q ps hp (List.Perm.refl _) ?_ (I.setList hm hq rv hz (hm.at' fun o e => k2 _ o (Ne.symm nL) e) (fun b o _ hb z => k2 b o hb z) e2)
    match ps, few with
    | [], _ => exact .nil
    | [p], _ => exact List.pairwise_singleton _ _
  · have F0 : Fr (Att.noObjs s.heap) X.env.locals s.heap m := Att.fr_all hm
    generalize hN : (allNews (Att.noObjs s.heap) s.heap X.env.locals).filter (fun p => decide (p.1 ≠ l)) = nw
    have N0 : News (Att.noObjs s.heap) X.env.locals s.heap nw := fun p hp => by rw [← hN] at hp; exact news_all p (List.mem_filter.mp hp).1
    have nl0 : ∀ p ∈ nw, p.1 ≠ l := fun p hp => by rw [← hN] at hp; exact of_decide_eq_true (List.mem_filter.mp hp).2
    refine wpAny_call_entry slot_list_sort ⟨_, at0, rfl⟩ entry_list_sort (kat_list_sort F0 N0 at0 nL (Att.noObjs_get _ _) nl0 (by omega) (by omega) fun e1 h' F' N' => ?_) (args_list_sort _)
    have keep : ∀ (g : Heap) (x : Obj), News (Att.noObjs s.heap) X.env.locals g ((l, x) :: nw) → ∀ b o, b ≠ X.env.locals → b ≠ l → s.heap.get? b = some o → g.get? b = some o := fun g x N b o hb hl e =>
      (N (b, o) (List.mem_cons_of_mem _ (by rw [← hN]; exact List.mem_filter.mpr ⟨mem_allNews hb (Att.noObjs_get _ _) e, decide_eq_true hl⟩))).1
    have kk : keyKind' its.toArray = pure oneType' := by
      have st := strs_of rv
      match its, li, st with
      | v1 :: v2 :: r, _, st => exact keyKind_strs st
      | [_], li, _ => simp at li; omega
      | [], li, _ => simp at li; omega
    rw [kk]
    refine wpAny_pure ?_
    rw [li]
    have unlike : ∀ i j, i < ps.length → j < ps.length → i ≠ j → ps.getD i default ≠ ps.getD j default := fun i j hi hj hij e => by
      have ei : ps.getD i default = ps[i] := by simp [List.getD, hi]
      have ej : ps.getD j default = ps[j] := by simp [List.getD, hj]
      rw [ei, ej] at e
      exact hij ((List.getElem_inj nd).mp e)
    have O : Ord (kas_ask X.prog X.w A.in1 oneType' its) (fun i j => decide ((ps.getD i default).cps.toList < (ps.getD j default).cps.toList)) ps.length { s with heap := h' } := by
      refine ⟨fun i j C hi hj hij hC => ?_, fun i j k h1 h2 => ?_, fun i j hi hj hij h1 => ?_, fun i j h1 => ?_⟩
      · show wpAny _ _ (keyLt' _ _ _) C _ _
        obtain ⟨t1, e1⟩ := strs_at rv i hi
        obtain ⟨t2, e2⟩ := strs_at rv j hj
        rw [e1, e2]
        exact kas_lt_str hC
      · exact decide_eq_true (List.lt_trans (of_decide_eq_true h1) (of_decide_eq_true h2))
      · exact decide_eq_true (lst_tot (of_decide_eq_false h1) fun e => unlike i j hi hj hij (str_ext e))
      · exact decide_eq_false (List.lt_asymm (of_decide_eq_true h1))
    refine sort_ok O (by omega) fun p re up => ?_
    have hl2 : p.toList.Perm (List.range ps.length) := by simpa using Array.perm_iff_toList_perm.mp re.perm
    have outs : ∀ il : List Nat, (∀ i ∈ il, i < ps.length) → Vals ((il.map fun i => ps.getD i default).map V.str) (il.map fun i => its.getD i .none) := by
      intro il
      induction il with
      | nil => intro _; exact .nil
      | cons i il ih =>
        intro h
        obtain ⟨t1, e1⟩ := strs_at rv i (h i List.mem_cons_self)
        refine .cons ?_ (ih fun x hx => h x (List.mem_cons_of_mem _ hx))
        exact ⟨t1, e1⟩
    have rv2 := outs p.toList fun i hi => List.mem_range.mp ((List.Perm.mem_iff hl2).mp hi)
    refine KasFin.intro (news := (l, seqObj "list" #[] e1) :: nw) (g := fun o' => (l, o') :: nw) F' N' (.head nl0) fun h2 c F2 N2 => ?_
    have pq := pick_perm (d := default) rfl re
    have I2 := I.setList (D := l) hm hq rv2 (by rw [List.length_map, pq.length_eq]; simpa using hz) F2.ns (keep h2 _ N2) (N2 (l, _) List.mem_cons_self).1
    exact ⟨_, rfl, q _ h2 pq (pick_pairwise (R := txLt) (fun i j _ _ h => (of_decide_eq_true h : (ps.getD i default).cps.toList < (ps.getD j default).cps.toList)) re up) I2⟩
end
section
variable {X : Cx}
/-- the set that is kept -/
def SetO (P : Program) (w : World) (a : Addr) (xs : List Str) : HO := .ext fun h => SetS P w h a xs
theorem call_setS (hc : X.calm = true) : CallR X (.type "set") (fun xs H Q => ∃ (l : Addr) (ys : List Str), xs = [.ref l] ∧ SqL X.K H l (ys.map V.str) ∧ ys.length ≤ 1000 ∧
    ∀ (a : Addr) (zs : List Str), H a = none → zs.Nodup → (∀ x, x ∈ zs ↔ x ∈ ys) → zs.length ≤ ys.length → Q (.ref a) (upd H a (SetO X.prog X.w a zs))) := by
  intro pins s σ H xs us Q I r h
  obtain ⟨l, ys, rfl, hq, hy, q⟩ := h
  obtain ⟨u, rfl, ru⟩ := vals1 r
  cases ru
  obtain ⟨its, rv, p, hz⟩ := I.list hq
  have li : its.length = ys.length := by have := rv.length; rw [List.length_map] at this; exact this.symm
  have hb : its.toArray.size + 1 < scanBound := by rw [List.size_toArray, li]; unfold scanBound; omega
  refine call_set_strs (ys := ys) (I.ok.hd hc) p.isList (fun i v hv => ?_) hb fun h' tk hS k => ?_
  · have hv' : its[i]? = some v := by simpa using hv
    have hi : i < ys.length := by rw [← li]; exact (List.getElem?_eq_some_iff.mp hv').1
    obtain ⟨t, e⟩ := strs_at rv i hi
    refine ⟨t, ?_⟩
    rw [← e]
    simp [List.getD, hv']
  · have sz : its.toArray.size = ys.length := by rw [List.size_toArray, li]
    rw [sz] at hS
    refine ⟨.ref s.heap.objs.size, _, I.laid (a := s.heap.objs.size) (o := SetO X.prog X.w s.heap.objs.size (uq (fun i => ys.getD i default) ys.length)) (t' := tk) (fun b u e => k b u (Heap.lt_size e) e) (Nat.le_refl _) ?_, rfl, q _ _ I.fresh (uq_nodup _ _) (fun x => ?_) (uq_len _ _)⟩
    · refine ⟨hS, ?_, fun h1 h2 x kk => SetS.at' x kk⟩
      obtain ⟨o, _, _, _, ho, _⟩ := hS
      exact ⟨o, ho⟩
    · rw [uq_mem]
      constructor
      · rintro ⟨j, hj, rfl⟩
        have e : ys.getD j default = ys[j] := by simp [List.getD, hj]
        rw [e]; exact List.getElem_mem hj
      · intro hx
        obtain ⟨j, hj, rfl⟩ := List.getElem_of_mem hx
        exact ⟨j, hj, by simp [List.getD, hj]⟩
theorem call_sortedS (hc : X.calm = true) : CallR X (.builtin "sorted") (fun xs H Q => ∃ (a : Addr) (zs : List Str), xs = [.ref a] ∧ H a = some (SetO X.prog X.w a zs) ∧ zs.Nodup ∧ zs.length < 64 ∧
    ∀ (l : Addr) (qs : List Str), H l = none → qs.Perm zs → qs.Pairwise txLt → Q (.ref l) (upd H l (.lst (qs.map V.str)))) := by
  intro pins s σ H xs us Q I r h
  obtain ⟨a, zs, rfl, ha, nd, h64, q⟩ := h
  obtain ⟨u, rfl, ru⟩ := vals1 r
  cases ru
  obtain ⟨hS, _, _⟩ := (show ObjOk X.prog X.w H s.heap a (SetO X.prog X.w a zs) from I.hok a _ ha)
  refine Calls.call_function_entry kind_sorted plain_sorted entry_sorted (args_sorted1 _) ?_
  unfold Builtin.«sorted»
  refine wpAny_bind (m := checkCount "sorted" 1 1 _) (wpAny_pure (wpAny_bind (collect_set (A := X.A.in1) (I.ok.hd hc) hS (by omega) fun h' d tk vs os k rv hp => ?_)))
  have I1 : Inv X pins σ H { s with heap := h', gens := s.gens, drawn := d, toks := tk } := I.call (ch := []) (Un.kept k) (I.hok.kept k) I.bare fun b hb => nomatch hb
  have lv : vs.length = zs.length := by have := rv.length; rw [List.length_map, hp.length_eq] at this; exact this.symm
  refine wpAny_bind (wpAny_newList ?_ (by rw [lv, sizeLine_eq]; omega))
  have I2 := I1.lnew (t' := tk) rv (by rw [List.length_map, hp.length_eq, sizeLine_eq]; omega)
  refine wpAny_bind (wpAny_holding (lsort_str (A := X.A.in1) (l := h'.objs.size) (ps := os) I2 upd_same (hp.nodup_iff.mpr nd) (by rw [hp.length_eq]; exact h64) fun qs h2 pq pw I3 => ?_))
  rw [upd_upd] at I3
  exact wpAny_pure ⟨_, rfl, .ref h'.objs.size, _, I3, rfl, q _ qs I1.fresh (pq.trans hp) pw⟩
end
end L2

set_option maxHeartbeats 1000000
namespace L2
open PySem PySem.Spec PyProof.Rows PySem.W
section
variable {X : Cx}
theorem log_big {j : Int} (h0 : 0 < j) (h1 : j < 10 ^ 60) : j.natAbs.log2 < 9000 := by
  have hn : j.natAbs < 2 ^ 200 := by omega
  have := (Nat.log2_lt (n := j.natAbs) (k := 200) (by omega)).mpr hn
  omega
/-- // by a positive divisor that may be great -/
def CDivB (i j : Int) : Prop := 0 < j ∧ j < 10 ^ 60
theorem op_fdivB : OpR X (binaryOp .FloorDiv) (rI CDivB fun i j => .int (i / j)) := opI fun i j _ _ _ _ _ hc q => by
  have h1 : (0 : Int) < j := hc.1
  exact floordiv_int (by omega) (by rw [Int.fdiv_eq_ediv_of_nonneg i (by omega)]; exact q) (.inl (PyProof.noPylong_of_log2 (log_big hc.1 hc.2)))
end
end L2

set_option maxHeartbeats 1000000
namespace L2
open PySem PySem.Spec PyProof.Rows PySem.W
theorem vals_by : ∀ {xs : List V} {us : List Value}, xs.length = us.length → (∀ (i : Nat) (x : V) (u : Value), xs[i]? = some x → us[i]? = some u → RelV x u) → Vals xs us
  | [], [], _, _ => .nil
  | [], _ :: _, h, _ => by cases h
  | _ :: _, [], h, _ => by cases h
  | x :: xs, u :: us, h, g => .cons (g 0 x u rfl rfl) (vals_by (by simpa using h) fun i y v h1 h2 => g (i + 1) y v h1 h2)
section
variable {X : Cx}
end
end L2

set_option maxHeartbeats 1000000
namespace L2
open PySem PySem.Spec PyProof.Rows
/-! ### enumerate(tuple), its pairs unpacked -/
section
variable {prog : Program} {w : World} {A : Around} {E : Value → Shared → Prop} {s : Shared}
end
section
variable {X : Cx}
end
end L2

set_option maxHeartbeats 1000000
namespace L2
open PySem PySem.Spec PyProof.Rows PySem.W
/-! ### an object that was frozen by a walk is let go -/
section
variable {X : Cx}
theorem Inv.thaw {pins : List (Addr × Obj)} {σ : St} {H : Hp} {s : Shared} {d : Addr} {u : HO} {o : Obj} (I : Inv X pins σ H s) (h : H d = some (.frz o u)) (h0 : ∀ o' u', X.H₀ d ≠ some (.frz o' u')) (hu : Mut (some u)) (hm : ∀ xs, X.H₀ d ≠ some (.tup xs)) (ht : ∀ ps, X.H₀ d ≠ some (.tbl ps)) : Inv X pins σ (upd H d u) s := by
  have nn : ∀ b, H b = none → b ≠ d := fun b q z => by subst z; rw [h] at q; cases q
  have nt : ∀ b v, H b = some v → v ≠ .frz o u → b ≠ d := fun b v q n z => by subst z; rw [h] at q; cases q; exact n rfl
  have hok : HOk X.prog X.w (upd H d u) s.heap := fun b v e => by
    by_cases hb : b = d
    · subst hb
      rw [upd_same] at e
      cases e
      obtain ⟨ho, hu'⟩ := (show ObjOk X.prog X.w H s.heap b (.frz o u) from I.hok b _ h)
      refine hu'.stay (fun c w' _ q => q) (fun c q => ?_) fun c xs q => ?_
      · rw [upd_ne (nt c _ q nofun)]; exact q
      · rw [upd_ne (nt c _ q nofun)]; exact q
    · rw [upd_ne hb] at e
      refine (I.hok b v e).stay (fun c w' _ q => q) (fun c q => ?_) fun c xs q => ?_
      · rw [upd_ne (nt c _ q nofun)]; exact q
      · rw [upd_ne (nt c _ q nofun)]; exact q
  have B := I.base
  refine ⟨I.ok, I.os, I.bare, ⟨B.keep, B.slot, fun b o q n hx => ?_, B.there, fun b xs q => ?_, fun b o' v q => ?_, fun b ps q => ?_⟩, I.loc, I.cell, ?_, fun x c e => ?_, fun p hp => ?_, hok, I.len⟩
  · have := B.free b o q n hx
    rw [upd_ne (nn b this)]; exact this
  · rw [upd_ne (fun z : b = d => hm xs (by rw [← z]; exact q))]; exact B.tups b xs q
  · rw [upd_ne (fun z : b = d => h0 o' v (by rw [← z]; exact q))]; exact B.frzs b o' v q
  · rw [upd_ne (fun z : b = d => ht ps (by rw [← z]; exact q))]; exact B.tbls b ps q
  · rw [upd_ne (nn _ I.free)]; exact I.free
  · rw [upd_ne (nn _ (I.freeC x c e))]; exact I.freeC x c e
  · obtain ⟨a1, a2, a3⟩ := I.pin p hp
    exact ⟨a1, by rw [upd_ne (nn _ a2)]; exact a2, a3⟩
/-- d, which a walk froze, was none of these when the call began -/
def Thaws (H0 : Hp) (d : Addr) : Prop := H0 d = none ∨ ∃ m, H0 d = some (.dK m)
theorem Thaws.ok {H0 : Hp} {d : Addr} (h : Thaws H0 d) : (∀ o' u', H0 d ≠ some (.frz o' u')) ∧ (∀ xs, H0 d ≠ some (.tup xs)) ∧ ∀ ps, H0 d ≠ some (.tbl ps) := by
  rcases h with h | ⟨m, h⟩
  · exact ⟨fun o' u' z => (by rw [h] at z; cases z), fun xs z => (by rw [h] at z; cases z), fun ps z => (by rw [h] at z; cases z)⟩
  · exact ⟨fun o' u' z => (by rw [h] at z; cases z), fun xs z => (by rw [h] at z; cases z), fun ps z => (by rw [h] at z; cases z)⟩
def tThaw (H0 : Hp) (t : TE) : TE := fun σ H Q => t σ H fun v H2 => ∃ d o m, H2 d = some (.frz o (.dK m)) ∧ Thaws H0 d ∧ Q v (upd H2 d (.dK m))
theorem pe_thaw {e : Expr} {t : TE} (h : PE X e t) : PE X e (tThaw X.H₀ t) := by
  intro pins s σ H Q I q
  refine thn (h pins s σ H _ I q) fun v s1 ⟨x, H1, I1, r1, d, o, m, hd, ht, q1⟩ => ?_
  obtain ⟨h0, h1, h2⟩ := ht.ok
  exact ⟨x, _, I1.thaw hd h0 True.intro h1 h2, r1, q1⟩
/-! ### over d.values() -/
variable {tg : Expr}
def Itv (d : Addr) (o : Obj) (kvs : List (Key × V)) : It :=
  ⟨fun i H => H d = some (.frz o (.dK kvs)) ∧ i < kvs.length, fun i H x H' => H' = H ∧ ∃ k, kvs[i]? = some (k, x), fun i H => H d = some (.frz o (.dK kvs)) ∧ i = kvs.length⟩
theorem turn_vals {P : Program} {w : World} {K : PySem.W.Frag} (d it : Addr) (o : Obj) (kvs : List (Key × V)) (vs : List (Key × Value)) (ep : Nat) (hlen : kvs.length = vs.length) (rel : KV kvs vs) (hat : ∀ h : Heap, h.get? d = some o → h.DictAt (mixKind P w) d vs ep) :
    Turn P w K tg (Itv d o kvs) [it] it (fun i h => h.IsValIter it d i vs.length ep) where
  mem := by simp
  obj := fun i h st b hb => by
    have e : b = it := by simpa using hb
    subst e
    obtain ⟨o, e, c, d⟩ := st
    exact ⟨o, e, fun v z => by rw [d] at z; cases z⟩
  keep := fun i h h' st k => st.at fun o e => k it (by simp) o e
  item := by
    intro X hP hw hK hc i pins s σ H E I hf st hg
    subst hP hw hK
    obtain ⟨hd, hi⟩ := hg
    obtain ⟨f0, f1, f2, f3, f4, f5⟩ := hf it (by simp)
    obtain ⟨ho, _⟩ := (show ObjOk X.prog X.w H s.heap d (.frz o (.dK kvs)) from I.hok d _ hd)
    have hvi : i < vs.length := by omega
    refine wpAny_pyNext_values_item (knd := mixKind X.prog X.w) st (hat s.heap ho) (k := vs[i].1) (v := vs[i].2) (by simp [hvi]) fun h' st' sb => ?_
    have I1 : Inv X pins σ H { s with heap := h' } := I.turned (t' := s.toks) (fun b o hb e => (sb.2 b hb).trans e) f0 f1 f3 f4 f5
    obtain ⟨x, hx, rx⟩ := rel.at (i := i) (k := vs[i].1) (v := vs[i].2) (by simp [hvi])
    obtain ⟨oi, e, c, dd⟩ := id st'
    exact ⟨vs[i].2, rfl, go_of (s := { s with heap := h' }) e c dd (by decide) ⟨x, H, I1, rx, ⟨rfl, _, hx⟩, st', fun b hb => (hf b hb).1⟩⟩
  done := by
    intro X hP hw hK hc i pins s σ H E I hf st hg
    subst hP hw hK
    obtain ⟨hd, hi⟩ := hg
    obtain ⟨f0, f1, f2, f3, f4, f5⟩ := hf it (by simp)
    obtain ⟨ho, _⟩ := (show ObjOk X.prog X.w H s.heap d (.frz o (.dK kvs)) from I.hok d _ hd)
    exact wpAny_pyNext_values_end (knd := mixKind X.prog X.w) (I.ok.hd hc) st (hat s.heap ho) (List.getElem?_eq_none_iff.mpr (by omega)) fun h' eb => ⟨rfl, I.turned (t' := s.toks) (fun b o hb e => eb b o hb e) f0 f1 f3 f4 f5⟩
  self := fun _ _ _ _ _ st h => wpAny_pyIter_valiter st h
def iVals (td : TE) : TI := fun σ H R => td σ H fun x H1 => ∃ d kvs, x = .ref d ∧ H1 d = some (.dK kvs) ∧ ∀ o, R (Itv d o kvs) (upd H1 d (.frz o (.dK kvs)))
theorem pi_vals {e : Expr} {td : TE} {apos cpos : Pos} (hl : PE X e td) (hbase : attributeBase e "values" X.env (eval e X.env) = eval e X.env := by rfl) (hline : (apos.endLine == cpos.line) = true := by rfl) : PI X tg (.Call (.Attribute e "values" apos) [] [] cpos) (iVals td) := by
  intro pins s σ H R I h
  refine wpAny_Call_method0_late hbase hline (thn (hl pins s σ H _ I h) fun v s1 ⟨x, H1, I1, r1, q1⟩ => ?_)
  obtain ⟨d, kvs, e, hd, q⟩ := q1
  subst e
  have ty : tyV X.K "dict" (.ref d) H1 := .inr (.inr (.inl ⟨rfl, .inl ⟨_, hd⟩⟩))
  obtain ⟨h1, h2⟩ := tyV_is I1 r1 ty
  cases r1
  obtain ⟨hz, hS, vs, rel, m⟩ : kvs.length ≤ sizeLine ∧ (d == sysModules) = false ∧ ∃ vs, KV kvs vs ∧ s1.heap.DictOf (mixKind X.prog X.w) d vs := I1.hok d _ hd
  refine ⟨"dict", "dict.values", PySem.F.plainAttrs_dict, PySem.F.slot_dict_values, PySem.F.type_dict_values, h1, h2, Calls.callWith_builtin rfl (PySem.evalArgs_none ?_)⟩
  refine call_meetsIn PySem.F.slot_dict_values m.typeIs PySem.F.entry_dict_values (PySem.F.args_dict_values_1 _) (meets_dict_values (mixKind X.prog X.w) d hS) ⟨⟨vs, m⟩, ?_⟩
  obtain ⟨ep, o, es, ho, rest⟩ := m.dictAt
  have hat : ∀ h : Heap, h.get? d = some o → h.DictAt (mixKind X.prog X.w) d vs ep := fun h e => ⟨o, es, e, rest⟩
  have kp : ∀ b o, s1.heap.get? b = some o → (s1.heap.push { cls := .type "dict_values", data := .fields #[.ref d] }).get? b = some o := fun b o e => Heap.get?_push_of_some _ e
  have I2 : Inv X pins σ H1 { s1 with heap := s1.heap.push { cls := .type "dict_values", data := .fields #[.ref d] } } := I1.kept (t' := s1.toks) kp
  have ho2 := kp d o ho
  have I3 := I2.freeze hd True.intro ho2
  refine wpAny_pyIter_values (knd := mixKind X.prog X.w) ⟨_, Heap.get?_push_size _ rfl, rfl, rfl⟩ (hat _ ho2) ?_
  refine ⟨_, [_], _, _, _, rfl, I3.kept (t' := s1.toks) fun b o e => Heap.get?_push_of_some _ e, turn_vals d _ o kvs vs ep rel.length rel hat, ⟨_, Heap.get?_push_size _ rfl, rfl, rfl⟩, fun b hb => I3.fp1 b hb, q o⟩
end
end L2

set_option maxHeartbeats 1000000
namespace L2
open PySem PySem.Spec PyProof.Rows PySem.W
/-! ### == and != of deep values that may be unlike -/
mutual
theorem Rep.inj {H : Hp} : ∀ (d e : Dv) (v : V), Rep H d v → Rep H e v → d = e
  | .tup ds, e, v, h1, h2 => by
    simp only [Rep] at h1
    obtain ⟨a, vs, rfl, ha, rs⟩ := h1
    cases e with
    | tup es => simp only [Rep] at h2; obtain ⟨b, ws, eb, hb, rs2⟩ := h2; cases eb; rw [ha] at hb; cases hb; rw [Reps.inj ds es vs rs rs2]
    | lst es => simp only [Rep] at h2; obtain ⟨b, ws, eb, hb, rs2⟩ := h2; cases eb; rw [ha] at hb; cases hb
    | dct => simp only [Rep] at h2; obtain ⟨b, eb, hb⟩ := h2; cases eb; rw [ha] at hb; cases hb
    | _ => simp only [Rep] at h2; cases h2
  | .lst ds, e, v, h1, h2 => by
    simp only [Rep] at h1
    obtain ⟨a, vs, rfl, ha, rs⟩ := h1
    cases e with
    | lst es => simp only [Rep] at h2; obtain ⟨b, ws, eb, hb, rs2⟩ := h2; cases eb; rw [ha] at hb; cases hb; rw [Reps.inj ds es vs rs rs2]
    | tup es => simp only [Rep] at h2; obtain ⟨b, ws, eb, hb, rs2⟩ := h2; cases eb; rw [ha] at hb; cases hb
    | dct => simp only [Rep] at h2; obtain ⟨b, eb, hb⟩ := h2; cases eb; rw [ha] at hb; cases hb
    | _ => simp only [Rep] at h2; cases h2
  | .dct, e, v, h1, h2 => by
    simp only [Rep] at h1
    obtain ⟨a, rfl, ha⟩ := h1
    cases e with
    | dct => rfl
    | tup es => simp only [Rep] at h2; obtain ⟨b, ws, eb, hb, rs2⟩ := h2; cases eb; rw [ha] at hb; cases hb
    | lst es => simp only [Rep] at h2; obtain ⟨b, ws, eb, hb, rs2⟩ := h2; cases eb; rw [ha] at hb; cases hb
    | _ => simp only [Rep] at h2; cases h2
  | .non, e, v, h1, h2 => by
    simp only [Rep] at h1; subst h1
    cases e with
    | non => rfl
    | tup es => simp only [Rep] at h2; obtain ⟨b, ws, eb, _⟩ := h2; cases eb
    | lst es => simp only [Rep] at h2; obtain ⟨b, ws, eb, _⟩ := h2; cases eb
    | dct => simp only [Rep] at h2; obtain ⟨b, eb, _⟩ := h2; cases eb
    | _ => simp only [Rep] at h2; cases h2
  | .bl _, e, v, h1, h2 => by
    simp only [Rep] at h1; subst h1
    cases e with
    | bl b => simp only [Rep] at h2; cases h2; rfl
    | tup es => simp only [Rep] at h2; obtain ⟨b, ws, eb, _⟩ := h2; cases eb
    | lst es => simp only [Rep] at h2; obtain ⟨b, ws, eb, _⟩ := h2; cases eb
    | dct => simp only [Rep] at h2; obtain ⟨b, eb, _⟩ := h2; cases eb
    | _ => simp only [Rep] at h2; cases h2
  | .int _, e, v, h1, h2 => by
    simp only [Rep] at h1; subst h1
    cases e with
    | int b => simp only [Rep] at h2; cases h2; rfl
    | tup es => simp only [Rep] at h2; obtain ⟨b, ws, eb, _⟩ := h2; cases eb
    | lst es => simp only [Rep] at h2; obtain ⟨b, ws, eb, _⟩ := h2; cases eb
    | dct => simp only [Rep] at h2; obtain ⟨b, eb, _⟩ := h2; cases eb
    | _ => simp only [Rep] at h2; cases h2
  | .str _, e, v, h1, h2 => by
    simp only [Rep] at h1; subst h1
    cases e with
    | str b => simp only [Rep] at h2; cases h2; rfl
    | tup es => simp only [Rep] at h2; obtain ⟨b, ws, eb, _⟩ := h2; cases eb
    | lst es => simp only [Rep] at h2; obtain ⟨b, ws, eb, _⟩ := h2; cases eb
    | dct => simp only [Rep] at h2; obtain ⟨b, eb, _⟩ := h2; cases eb
    | _ => simp only [Rep] at h2; cases h2
theorem Reps.inj {H : Hp} : ∀ (ds es : List Dv) (vs : List V), Reps H ds vs → Reps H es vs → ds = es
  | [], es, vs, h1, h2 => by
    simp only [Reps] at h1; subst h1
    cases es with
    | nil => rfl
    | cons e es => simp only [Reps] at h2; obtain ⟨v, r, e2, _⟩ := h2; cases e2
  | d :: ds, es, vs, h1, h2 => by
    simp only [Reps] at h1
    obtain ⟨v, r, rfl, r1, rs1⟩ := h1
    cases es with
    | nil => simp only [Reps] at h2; cases h2
    | cons e es =>
      simp only [Reps] at h2
      obtain ⟨v2, r2, e2, r3, rs3⟩ := h2
      cases e2
      rw [Rep.inj d e v r1 r3, Reps.inj ds es r rs1 rs3]
end
section
variable {X : Cx} {pins : List (Addr × Obj)} {σ : St} {H : Hp} {s : Shared}
end
section
variable {X : Cx}
/-! ### == and != of dicts of the same things -/
theorem same_hits {pins : List (Addr × Obj)} {σ : St} {H : Hp} {s : Shared} {ma mb : List (Key × V)} {va vb : List (Key × Value)} (ra : KV ma va) (rb : KV mb vb) (hm : ∀ p ∈ ma, ∃ i : Int, p.2 = .int i ∧ valV mb p.1 = some (.int i)) : KeqHits X.A.in1 s vb va true := hits_all va fun p hp => by
  obtain ⟨i, hi⟩ := List.getElem?_of_mem hp
  obtain ⟨k, w⟩ := p
  obtain ⟨x, hx, rx⟩ := ra.at hi
  obtain ⟨j, e, hv⟩ := hm _ (List.mem_of_getElem? hx)
  have e' : x = .int j := e
  subst e'
  obtain ⟨y, hy, ry⟩ := RelO.some_of (v := .int j) (o := valueAt vb k) (by rw [← hv]; exact rb.val k)
  refine ⟨y, hy, ?_⟩
  obtain ⟨t, rfl⟩ := (show ∃ t, w = Value.int j t from rx)
  obtain ⟨t', rfl⟩ := (show ∃ t, y = Value.int j t from ry)
  have e := SeqAt.EqAt.int_int (A := X.A.in1) (s := s) j t j t'
  rwa [beq_self_eq_true] at e
theorem op_neS (hu : X.A.units + 8 < cLine) : OpR X (compareOp .NotEq) (fun x y H Q => ∃ (a b : Addr) (ma mb : List (Key × V)), x = .ref a ∧ y = .ref b ∧ Rd H a (.dK ma) ∧ Rd H b (.dK mb) ∧ ma.length = mb.length ∧ (∀ p ∈ ma, ∃ i : Int, p.2 = .int i ∧ valV mb p.1 = some (.int i)) ∧ Q (.bl false) H) := by
  intro pins s σ H x y v u Q I rx ry h
  obtain ⟨a, b, ma, mb, rfl, rfl, ha, hb, hl, hm, q⟩ := h
  cases rx
  cases ry
  obtain ⟨z, hda, va, ra, da⟩ := dk_rd I.hok ha
  obtain ⟨_, hdb, vb, rb, db⟩ := dk_rd I.hok hb
  have la := ra.length
  have lb := rb.length
  refine keq_ne (r := true) hda hdb da db (by omega) (fun _ => same_hits (pins := pins) (σ := σ) (H := H) ra rb hm) ?_
  have e : (!(va.length == vb.length && true)) = false := by simp; omega
  rw [e]
  exact ⟨.bl false, H, I, rfl, q⟩
end
end L2

set_option maxHeartbeats 1000000
namespace L2
open PySem PySem.Spec PyProof.Rows PySem.W
/-! ### a call of a function that a name of the call's own holds -/
section
variable {X : Cx} {k : Nat} {f : Addr} {fd : FuncData} {ps : List Str} {sp : Sp} {x : Str} {p pos : Pos} {e : Expr} {es : List Expr} {t : TA}
end
/-! ### list(reversed(l)) -/
section
variable {prog : Program} {w : World} {A : Around} {E : Value → Shared → Prop} {s : Shared} {r l S : Addr} {items : Array Value}
end
section
variable {X : Cx} {e : Expr} {te : TE} {p p1 pos pos1 : Pos}
end
end L2

set_option maxHeartbeats 1000000
namespace L2
open PySem PySem.Spec PyProof.Rows PySem.W
/-! ### zip(l, m) of two lists, its pairs unpacked -/
section
variable {X : Cx}
end
end L2

set_option maxHeartbeats 1000000
namespace L2
open PySem PySem.Spec PyProof.Rows PySem.W
/-! ### sorted(d), sorted(d, reverse=True) of a dict of texts -/
section
variable {X : Cx} {pins : List (Addr × Obj)} {s : Shared} {σ : St} {H : Hp}
theorem collect_dict {A : Around} {E : Value → Shared → Prop} {d : Addr} {m : List (Str × V)} {R : List Value → Shared → Prop} (hh : A.handled = none) (I : Inv X pins σ H s) (hd : H d = some (.dK (m.map fun p => ((Sum.inr p.1 : Key), p.2))))
    (h : ∀ h' tk vs, Vals ((m.map (·.1)).map V.str) vs → (m.map (·.1)).Nodup → m.length ≤ sizeLine → Inv X pins σ H { s with heap := h', toks := tk } → R vs { s with heap := h', toks := tk }) : wpAny (model X.prog X.w) A (collect (.ref d)) R E s := by
  obtain ⟨z, hdm, vs, rel, dd⟩ := dk_of I.hok hd
  obtain ⟨ep, da⟩ := dd.dictAt
  have ndk : (vs.map (·.1)).Nodup := by obtain ⟨_, _, _, _, _, _, _, nd⟩ := da; exact nd
  have hvl := rel.length
  rw [List.length_map] at hvl z
  have ek : vs.map (·.1) = m.map fun p => (Sum.inr p.1 : Key) := by
    refine List.ext_getElem? fun i => ?_
    rw [List.getElem?_map, List.getElem?_map]
    cases hv : vs[i]? with
    | none => rw [List.getElem?_eq_none (by rw [hvl]; exact List.getElem?_eq_none_iff.mp hv)]; rfl
    | some kv =>
      obtain ⟨y', hy, _⟩ := rel.at hv
      rw [List.getElem?_map] at hy
      cases hm : m[i]? with
      | none => rw [hm] at hy; cases hy
      | some p => rw [hm] at hy; exact congrArg some (Prod.mk.inj (Option.some.inj hy)).1.symm
  have ndm : (m.map (·.1)).Nodup := by
    rw [ek] at ndk
    have e : (m.map fun p => (Sum.inr p.1 : Key)) = (m.map (·.1)).map Sum.inr := by rw [List.map_map]; rfl
    rw [e] at ndk
    exact List.Pairwise.of_map Sum.inr (fun a b h e => h (congrArg Sum.inr e)) ndk
  refine kdu_collect (kdl_dict (knd := mixKind X.prog X.w) (kvs := vs) (ep := ep) hdm) hh da (by rw [← hvl]; exact z) fun h' tk acc k it => ?_
  refine h h' tk acc.toList ?_ ndm z (I.call (ch := []) (Un.kept k) (I.hok.kept k) I.bare fun b hb => nomatch hb)
  refine vals_by (by rw [List.length_map, List.length_map, hvl]; simpa using it.1.symm) fun i x u h1 h2 => ?_
  obtain ⟨key, y, e1, e2⟩ := it.2 i u (by simpa using h2)
  obtain ⟨y', hy, _⟩ := rel.at e1
  rw [List.getElem?_map] at hy
  rw [List.map_map, List.getElem?_map] at h1
  cases hm : m[i]? with
  | none => rw [hm] at hy; cases hy
  | some p =>
    rw [hm] at hy h1
    have hk : (Sum.inr p.1 : Key) = key := (Prod.mk.inj (Option.some.inj hy)).1
    subst hk
    obtain rfl : V.str p.1 = x := Option.some.inj h1
    exact kV_of e2
end
section
variable {X : Cx}
/-- sorted(d), d a dict whose keys are texts -/
theorem call_sortedD (hc : X.calm = true) : CallR X (.builtin "sorted") (fun xs H Q => ∃ (d : Addr) (m : List (Str × V)), xs = [.ref d] ∧ H d = some (.dK (m.map fun p => ((Sum.inr p.1 : Key), p.2))) ∧ m.length < 64 ∧
    ∀ (l : Addr) (qs : List Str), H l = none → qs.Perm (m.map (·.1)) → qs.Pairwise txLt → Q (.ref l) (upd H l (.lst (qs.map V.str)))) := by
  intro pins s σ H xs us Q I r h
  obtain ⟨d, m, rfl, hd, h64, q⟩ := h
  obtain ⟨u, rfl, ru⟩ := vals1 r
  cases ru
  refine Calls.call_function_entry kind_sorted plain_sorted entry_sorted (args_sorted1 _) ?_
  unfold Builtin.«sorted»; refine wpAny_bind (m := checkCount "sorted" 1 1 _) (wpAny_pure (wpAny_bind (collect_dict (A := X.A.in1) (I.ok.hd hc) I hd fun h' tk vs rv nd zl I1 => ?_)))
  have lv : vs.length = m.length := by have := rv.length; rw [List.length_map, List.length_map] at this; exact this.symm
  refine wpAny_bind (wpAny_newList ?_ (by rw [lv]; exact zl))
  have I2 := I1.lnew (t' := tk) rv (by rw [List.length_map, List.length_map]; exact zl)
  refine wpAny_bind (wpAny_holding (lsort_str (A := X.A.in1) (l := h'.objs.size) (ps := m.map (·.1)) I2 upd_same nd (by rw [List.length_map]; exact h64) fun qs h2 pq pw I3 => ?_))
  rw [upd_upd] at I3
  exact wpAny_pure ⟨_, rfl, .ref h'.objs.size, _, I3, rfl, q _ qs I1.fresh pq pw⟩
end
end L2

set_option maxHeartbeats 1000000
namespace L2
open PySem PySem.Spec PyProof.Rows PySem.W
/-! ### reversed(t) of a tuple -/
section
theorem slot_rv_next : Slot "reversed" "__next__" "reversed.__next__" := Slot.of (owner := "reversed") (n := "__next__") (by rw [typeLookup_type, builtinLookup_eq_fast]; kernel_rfl) (by decide +kernel) (by decide +kernel) (by decide +kernel) (by first | exact .inl (by decide +kernel) | exact .inr (by decide +kernel)) (by rw [isSubtype_type]; kernel_rfl)
theorem slot_rv_iter : Slot "reversed" "__iter__" "reversed.__iter__" := Slot.of (owner := "reversed") (n := "__iter__") (by rw [typeLookup_type, builtinLookup_eq_fast]; kernel_rfl) (by decide +kernel) (by decide +kernel) (by decide +kernel) (by first | exact .inl (by decide +kernel) | exact .inr (by decide +kernel)) (by rw [isSubtype_type]; kernel_rfl)
theorem slot_rv_init : Slot "reversed" "__init__" "object.__init__" := Slot.of (owner := "object") (n := "__init__") (by rw [typeLookup_type, builtinLookup_eq_fast]; kernel_rfl) (by decide +kernel) (by decide +kernel) (by decide +kernel) (by first | exact .inl (by decide +kernel) | exact .inr (by decide +kernel)) (by rw [isSubtype_type]; kernel_rfl)
theorem entry_rv_next : entryFor table "reversed.__next__" = some Builtin.«reversed.__next__» := entryFor_of_tree (by kernel_rfl)
theorem entry_rv_iter : entryFor table "reversed.__iter__" = some Builtin.«dict_keyiterator.__iter__» := entryFor_alias (id' := "dict_keyiterator.__iter__") (by kernel_rfl) (by first | rfl | decide +kernel | (unfold String.splitOn; simp +decide [String.splitOnAux])) (by decide +kernel) (by kernel_rfl)
theorem args_rv_next (a : Value) : argsOk "reversed.__next__" ⟨[a], []⟩ := by unfold argsOk; kernel_rfl
theorem args_rv_iter (a : Value) : argsOk "reversed.__iter__" ⟨[a], []⟩ := by unfold argsOk; kernel_rfl
theorem args_rv_init (a b : Value) : argsOk "object.__init__" ⟨[a, b], []⟩ := by unfold argsOk; kernel_rfl
theorem called_rv : TypeCalled "reversed" "reversed.__new__" "object.__init__" := ⟨by decide +kernel, F.create_reversed, ⟨_, _, F.mro_reversed⟩, F.made_reversed, F.plain_reversed_new, F.sub_reversed_self, slot_rv_init⟩
theorem nomeet_tup_rv : typeLookup (.type "tuple") "__reversed__" = pure none := by rw [typeLookup_type, builtinLookup_eq_fast]; kernel_rfl
theorem tup_nodict : isSubtype (.type "tuple") (.type "dict") = pure false := by rw [isSubtype_type]; kernel_rfl
end
end L2

set_option maxHeartbeats 1000000
namespace L2
open PySem PySem.Spec PyProof.Rows PySem.W
section
variable {prog : Program} {w : World} {A : Around} {E : Value → Shared → Prop} {s : Shared}
def rvObj (t : Addr) (i : Int) : Obj := { cls := .type "reversed", data := .fields #[.ref t, rawInt i] }
def IsRv (h : Heap) (a t : Addr) (i : Int) : Prop := ∃ o, h.get? a = some o ∧ o.cls = .type "reversed" ∧ o.data = .fields #[.ref t, rawInt i]
theorem IsRv.ty {a t : Addr} {i : Int} (x : IsRv s.heap a t i) : s.TypeIs (.ref a) "reversed" := let ⟨o, ho, hc, _⟩ := x; ⟨o, ho, hc⟩
theorem IsRv.at' {h h' : Heap} {a t : Addr} {i : Int} (x : IsRv h a t i) (e : ∀ o, h.get? a = some o → h'.get? a = some o) : IsRv h' a t i := let ⟨o, ho, r⟩ := x; ⟨o, e _ ho, r⟩
theorem rv_new (t : Addr) (items : Array Value) (hfit : (items.size : Int) < 2 ^ 63) : MeetsIn prog w (Builtin.«reversed.__new__» ⟨[.type "reversed", .ref t], []⟩) (fun _ R s => IsTup s.heap t items ∧ ∀ tk, R (.ok (.ret (.ref s.heap.objs.size))) { s with heap := s.heap.push (rvObj t ((items.size : Int) - 1)), toks := tk }) :=
  .of_wp fun A R s h => by
    obtain ⟨ht, h⟩ := h
    unfold Builtin.«reversed.__new__»
    refine wpAny_bind (wpAny_of_eq (newClass_reversed _) ?_)
    try dsimp only
    refine wpAny_bind (wpAny_of_eq (a := ()) (by first | rfl | kernel_rfl) (wpAny_bind (wpAny_of_eq (a := ()) (by first | rfl | kernel_rfl) ?_)))
    try dsimp only
    refine wpAny_bind (wpAny_specialOf ht.typeIs nomeet_tup_rv ?_)
    try dsimp only
    refine wpAny_bind ?_
    show wpAny _ _ (isInstance (.ref t) (.type "dict") >>= _) _ _ s
    refine wpAny_bind (wpAny_isInstance ht.typeIs tup_nodict ?_)
    try dsimp only
    simp only [Bool.false_eq_true, if_false]
    refine wpAny_bind (wpAny_specialOf ht.typeIs F.slot_tuple_getitem.lookup ?_)
    dsimp only
    rw [if_pos (by decide)]
    refine wpAny_pure ?_
    simp only [Bool.not_true, Bool.false_eq_true, if_false]
    refine wpAny_bind (len_tuple ht hfit ?_)
    refine wpAny_bind (wpAny_of_eq (a := some (items.size : Int)) rfl ?_)
    show wpAny _ _ (newObj (.type "reversed") (.fields #[.ref t, rawInt ((items.size : Int) - 1)]) >>= _) _ _ _
    refine wpAny_bind (wpAny_newObj_type ?_ (by size_fits))
    exact wpAny_pure ⟨_, rfl, h _⟩
theorem call_rv {t : Addr} {items : Array Value} {Q : Value → Shared → Prop} (ht : IsTup s.heap t items) (hfit : (items.size : Int) < 2 ^ 63) (h : ∀ tk, Q (.ref s.heap.objs.size) { s with heap := s.heap.push (rvObj t ((items.size : Int) - 1)), toks := tk }) : wpAny (model prog w) A (call (.type "reversed") [.ref t]) Q E s :=
  callType_newIn called_rv (by decide) (F.typeCall_reversed_1 _) (F.newCall_reversed_1 _) (fun obj => args_rv_init obj _) F.entry_reversed_new (rv_new t items hfit) ⟨ht, fun tk => ⟨⟨_, Heap.get?_push_size _ rfl, rfl⟩, h tk⟩⟩
theorem rv_item {it t : Addr} {i : Nat} {items : Array Value} {x : Value} {Q : Option Value → Shared → Prop} (hit : IsRv s.heap it t (i : Int)) (ht : IsTup s.heap t items) (hx : items[i]? = some x) (hfit : (items.size : Int) < 2 ^ 63)
    (hQ : ∀ h' tk, IsRv h' it t ((i : Int) - 1) → Heap.SameBut it s.heap h' → Q (some x) { s with heap := h', toks := tk }) : wpAny (model prog w) A (pyNext (.ref it)) Q E s := by
  obtain ⟨o, ho, hc, hd⟩ := id hit
  have hi : i < items.size := by have := (Array.getElem?_eq_some_iff.mp hx).1; exact this
  unfold pyNext
  refine wpAny_bind (wpAny_attempt (wpAny_callSpecial?_slot (name := Str.ofString "__next__") hit.ty slot_rv_next (wpAny_call_entry slot_rv_next hit.ty entry_rv_next ?_ (args_rv_next _))))
  unfold Builtin.«reversed.__next__»
  refine wpAny_bind (wpAny_of_eq (a := (Value.ref it, [])) rfl ?_)
  try dsimp only
  refine wpAny_bind (wpAny_field ho hd (x := .ref t) rfl (wpAny_bind (wpAny_field ho hd (x := rawInt (i : Int)) rfl ?_)))
  show wpAny _ _ (if (i : Int) < 0 then _ else _) _ _ s
  rw [if_neg (by omega)]
  refine wpAny_bind (wpAny_specialOf ht.typeIs F.slot_tuple_getitem.lookup ?_)
  simp only [Option.isNone_some, Bool.false_eq_true, if_false]
  refine wpAny_bind (wpAny_mkInt (wpAny_bind (wpAny_attempt (getItem_tuple (j := i) (items := items) ht (by omega) (by omega) (seqIndex_of (by omega) (by omega)) hx ?_))))
  refine wpAny_bind (wpAny_field ho hd (x := rawInt (i : Int)) rfl ?_)
  show wpAny _ _ (setField (.ref it) 1 (rawInt ((i : Int) - 1)) >>= _) _ _ _
  refine wpAny_bind (wpAny_setField ho hd (by simp) ?_)
  refine wpAny_pure ⟨x, rfl, wpAny_pure (hQ _ _ ?_ (Heap.SameBut.update ..))⟩
  exact ⟨_, Heap.get?_update_self _ ho (Obj.isFreed_of_fields (Obj.data_mapFields hd _)), (Obj.cls_mapFields ..).trans hc, by rw [Obj.data_mapFields hd]; simp⟩
theorem rv_end {it t : Addr} {Q : Option Value → Shared → Prop} (hh : A.handled = none) (hit : IsRv s.heap it t (-1))
    (hQ : ∀ h' tk, Heap.ExtBut it s.heap h' → Q none { s with heap := h', toks := tk }) : wpAny (model prog w) A (pyNext (.ref it)) Q E s := by
  obtain ⟨o, ho, hc, hd⟩ := id hit
  unfold pyNext
  refine wpAny_bind (wpAny_attempt (wpAny_callSpecial?_slot (name := Str.ofString "__next__") hit.ty slot_rv_next (wpAny_call_entry slot_rv_next hit.ty entry_rv_next ?_ (args_rv_next _))))
  unfold Builtin.«reversed.__next__»
  refine wpAny_bind (wpAny_of_eq (a := (Value.ref it, [])) rfl ?_)
  try dsimp only
  refine wpAny_bind (wpAny_field ho hd (x := .ref t) rfl (wpAny_bind (wpAny_field ho hd (x := rawInt (-1)) rfl ?_)))
  show wpAny _ _ (if (-1 : Int) < 0 then _ else _) _ _ s
  rw [if_pos (by decide)]; refine wpAny_bind (wpAny_rule ?_)
  refine wpAny_bind ?_
  show wpAny _ _ (setField (.ref it) 1 (rawInt (-1)) >>= fun _ => setField (.ref it) 0 .none) _ _ s
  refine wpAny_bind (wpAny_setField ho hd (by simp) ?_)
  have h1 := Heap.get?_update_self (Obj.mapFields fun x => x.setIfInBounds 1 (rawInt (-1))) ho (Obj.isFreed_of_fields (Obj.data_mapFields hd _))
  have d1 := Obj.data_mapFields hd fun x => x.setIfInBounds 1 (rawInt (-1))
  refine wpAny_setField h1 d1 (by simp) ?_
  refine wpAny_bind ?_
  show wpAny _ _ (newExc (.type "StopIteration") [] >>= _) _ _ _
  refine wpAny_bind ?_
  simp only [newExc, newTuple]
  refine wpAny_bind (wpAny_newObj_type ?_ (by size_fits)); refine wpAny_bind (m := firstArgMember _ _) (wpAny_of_eq (a := Value.none) (by first | rfl | (simp only [firstArgMember]; rfl)) (wpAny_newObj_type ?_ (by size_fits)))
  simp only [raiseNew]
  refine wpAny_bind (wpAny_handled ?_)
  rw [show A.in1.handled = none from hh]; refine wpAny_bind (wpAny_pure (wpAny_throw ?_))
  refine wpAny_bind (wpAny_isInstance (T := "StopIteration") (b := true) ⟨_, Heap.get?_push_size _ rfl, rfl⟩ isSubtype_stop ?_)
  refine wpAny_pure (hQ _ _ ?_)
  intro b u hb e
  exact Heap.get?_push_of_some _ (Heap.get?_push_of_some _ ((Heap.get?_update_other _ _ (Ne.symm hb)).trans ((Heap.get?_update_other _ _ (Ne.symm hb)).trans e)))
theorem rv_self {it t : Addr} {i : Int} {Q : Value → Shared → Prop} (hit : IsRv s.heap it t i) (h : Q (.ref it) s) : wpAny (model prog w) A (pyIter (.ref it)) Q E s := by
  refine wpAny_pyIter_slot hit.ty slot_rv_iter (wpAny_call_entry slot_rv_iter hit.ty entry_rv_iter ?_ (args_rv_iter _))
  show wpAny _ _ (ret (.ref it)) _ _ s
  exact wpAny_pure ⟨_, rfl, "reversed", _, hit.ty, slot_rv_next.lookup, h⟩
end
/-- what a walk over reversed(t) gives: the last first -/
def Itw (K : PySem.W.Frag) (a : Addr) (n : Nat) : It :=
  ⟨fun i H => i < n ∧ ∃ xs, SqT K H a xs ∧ xs.length = n, fun i H x H' => H' = H ∧ ∀ xs, SqT K H a xs → xs[n - 1 - i]? = some x, fun i H => i = n ∧ ∃ xs, SqT K H a xs ∧ xs.length = n⟩
theorem turn_rv {P : Program} {w : World} {K : PySem.W.Frag} {tg : Expr} (a it : Addr) (n : Nat) : Turn P w K tg (Itw K a n) [it] it (fun i h => IsRv h it a ((n : Int) - 1 - i)) where
  mem := by simp
  obj := fun i h st b hb => by
    have e : b = it := by simpa using hb
    subst e
    obtain ⟨o, e, c, d⟩ := st
    exact ⟨o, e, fun v z => by rw [d] at z; cases z⟩
  keep := fun i h h' st k => st.at' fun o e => k it (by simp) o e
  item := by
    intro X hP hw hK hc i pins s σ H E I hf st hg
    subst hP hw hK
    obtain ⟨hi, xs, hq, hl⟩ := hg
    obtain ⟨its, rv, p, hz⟩ := I.tuple hq
    have hn : n - 1 - i < xs.length := by omega
    obtain ⟨u, hu, ru⟩ := rv.get (i := n - 1 - i) (x := xs[n - 1 - i]) (List.getElem?_eq_getElem hn)
    obtain ⟨f0, f1, f2, f3, f4, f5⟩ := hf it (by simp)
    have e1 : (n : Int) - 1 - i = ((n - 1 - i : Nat) : Int) := by omega
    have st1 : IsRv s.heap it a ((n - 1 - i : Nat) : Int) := by rw [← e1]; exact st
    have hlen := rv.length
    rw [sizeLine_eq] at hz
    refine rv_item st1 p (x := u) (by simpa using hu) (by rw [List.size_toArray]; omega) fun h' tk st' sb => ?_
    have I1 : Inv X pins σ H { s with heap := h', toks := tk } := I.turned (t' := tk) (fun b o hb e => (sb.2 b hb).trans e) f0 f1 f3 f4 f5
    have st2 : IsRv h' it a ((n : Int) - 1 - (i + 1 : Nat)) := by rw [show (n : Int) - 1 - (i + 1 : Nat) = ((n - 1 - i : Nat) : Int) - 1 by omega]; exact st'
    obtain ⟨o, e, c, d⟩ := id st'
    exact ⟨u, rfl, go_of (s := { s with heap := h', toks := tk }) e c d (by decide) ⟨_, H, I1, ru, ⟨rfl, fun ys hy => by rw [I.tuple_inj hy hq]; exact List.getElem?_eq_getElem hn⟩, st2, fun b hb => (hf b hb).1⟩⟩
  done := by
    intro X hP hw hK hc i pins s σ H E I hf st hg
    subst hP hw hK
    obtain ⟨rfl, xs, hq, hl⟩ := hg
    obtain ⟨f0, f1, f2, f3, f4, f5⟩ := hf it (by simp)
    have st1 : IsRv s.heap it a (-1) := by have e : (i : Int) - 1 - i = -1 := by omega
                                           rw [← e]; exact st
    exact rv_end (I.ok.hd hc) st1 fun h' tk eb => ⟨rfl, I.turned (t' := tk) (fun b o hb e => eb b o hb e) f0 f1 f3 f4 f5⟩
  self := fun _ _ _ _ _ st h => rv_self st h
section
variable {X : Cx} {tg e : Expr} {ta : TA} {p pos : Pos}
def iRev (K : PySem.W.Frag) (ta : TA) : TI := fun σ H R => ta σ H fun vs H1 => ∃ a xs, vs = [.ref a] ∧ SqT K H1 a xs ∧ R (Itw K a xs.length) H1
theorem pi_rev (hg : Gl X "reversed") (hm : X.mg "reversed" = none) (ha : PA X [e] ta) (hs : starEach [e] X.env = [(false, eval e X.env)] := by rfl) : PI X tg (.Call (.Name "reversed" p) [e] [] pos) (iRev X.K ta) := by
  intro pins s σ H R I h
  refine Call_ (ld_blt I hg hm (u := .type "reversed") (by decide +kernel) (PyProof.Rows.callWith_type1 (thn (ha pos pins s σ H _ I h) fun us s1 ⟨vs, H1, I1, r1, q1⟩ => ?_) hs rfl))
  obtain ⟨t, xs, e, hq, q⟩ := q1
  subst e
  cases r1 with
  | cons r rr =>
    cases rr
    cases r
    obtain ⟨its, rv, pl, hz⟩ := I1.tuple hq
    have hlen := rv.length
    rw [sizeLine_eq] at hz
    refine call_rv pl (by rw [List.size_toArray]; omega) fun tk => ?_
    have kp : ∀ b o, s1.heap.get? b = some o → (s1.heap.push (rvObj t ((its.toArray.size : Int) - 1))).get? b = some o := fun b o e => Heap.get?_push_of_some _ e
    have I2 : Inv X pins σ H1 { s1 with heap := s1.heap.push (rvObj t ((its.toArray.size : Int) - 1)), toks := tk } := I1.kept (t' := tk) kp
    have T : Turn X.prog X.w X.K tg (Itw X.K t xs.length) [s1.heap.objs.size] s1.heap.objs.size (fun i h => IsRv h s1.heap.objs.size t ((xs.length : Int) - 1 - i)) := turn_rv t _ _
    have st : IsRv (s1.heap.push (rvObj t ((its.toArray.size : Int) - 1))) s1.heap.objs.size t ((xs.length : Int) - 1 - (0 : Nat)) := ⟨_, Heap.get?_push_size _ rfl, rfl, by
      show Data.fields #[.ref t, rawInt ((its.toArray.size : Int) - 1)] = _
      rw [List.size_toArray, ← hlen]; simp⟩
    refine T.self X.A 0 { s1 with heap := s1.heap.push (rvObj t ((its.toArray.size : Int) - 1)), toks := tk } _ _ st ?_
    exact ⟨s1.heap.objs.size, _, _, _, H1, rfl, I2, T, st, fun b hb => I1.fp1 b hb, q⟩
end
theorem for_rev {K : PySem.W.Frag} {a : Addr} {xs : List V} {g : TG} {tb : TS} {D : Ends} {σ : St} {H : Hp} (Pv : Nat → St → Hp → Prop) (h0 : Pv 0 σ H) (hl : ∀ i σ H, i ≤ xs.length → Pv i σ H → SqT K H a xs)
    (hs : ∀ i x σ H, xs[xs.length - 1 - i]? = some x → i < xs.length → Pv i σ H → g x σ H fun σ2 H2 => tb { D with nx := Pv (i + 1), ct := Pv (i + 1), bk := D.nx } σ2 H2) (hd : ∀ σ H, Pv xs.length σ H → D.nx σ H) :
    ∃ W : Nat → Nat → St → Hp → Prop, (∃ m, W 0 m σ H) ∧ ∀ i m σ H, W i m σ H →
      ((Itw K a xs.length).stop i H ∧ D.nx σ H) ∨ ((Itw K a xs.length).go i H ∧ ∃ N : St → Hp → Prop, (∀ σ' H', N σ' H' → ∃ m', m' < m ∧ W (i + 1) m' σ' H') ∧ ∀ x H', (Itw K a xs.length).yld i H x H' → g x σ H' fun σ2 H2 => tb { D with nx := N, ct := N, bk := D.nx } σ2 H2) := by
  refine ⟨fun i m σ H => m = xs.length - i ∧ i ≤ xs.length ∧ Pv i σ H, ⟨xs.length, by simp, Nat.zero_le _, h0⟩, ?_⟩
  rintro i m σ H ⟨rfl, hi, p⟩
  by_cases hlt : i < xs.length
  · refine .inr ⟨⟨hlt, xs, hl i σ H hi p, rfl⟩, Pv (i + 1), fun σ' H' q => ⟨xs.length - (i + 1), by omega, rfl, hlt, q⟩, fun x H' y => ?_⟩
    obtain ⟨rfl, y⟩ := y
    exact hs i x σ _ (y xs (hl i σ _ hi p)) hlt p
  · have e : i = xs.length := by omega
    subst e
    exact .inl ⟨⟨rfl, xs, hl _ σ H hi p, rfl⟩, hd σ H p⟩
end L2

set_option maxHeartbeats 1000000
namespace L2
open PySem PySem.Spec PyProof.Rows PySem.W
section
variable {X : Cx}
/-- d.clear() -/
theorem mt_clearD : MtR X "dict.clear" (fun x xs H Q => ∃ d kvs, x = .ref d ∧ xs = [] ∧ H d = some (.dK kvs) ∧ Q .non (upd H d (.dK []))) := by
  intro pins s σ H x xs u us Q I rx rv h
  obtain ⟨d, kvs, rfl, rfl, hd, q⟩ := h
  cases rx
  cases rv
  obtain ⟨z, hdm, vs, rel, dd⟩ := dk_of I.hok hd
  refine call_meetsIn PySem.F.slot_dict_clear dd.typeIs PySem.F.entry_dict_clear (PySem.F.args_dict_clear_1 _) (meets_dict_clear (mixKind X.prog X.w) d) ⟨vs, dd, by rw [← rel.length]; exact z, fun h' dd' hs => ?_⟩
  have he : ∃ q, h'.get? d = some q := let ⟨q, _, _, hq, _⟩ := dd'; ⟨q, hq⟩
  exact ⟨.non, _, d_write I (by rw [hd]; exact True.intro) hs he (dk_new (Nat.zero_le _) hdm .nil dd'), rfl, q⟩
end
end L2

namespace K06
open PySem
/-! ### lengths as lists of names and times -/
abbrev Pr := Str × Int
def nmLt (p q : Pr) : Prop := p.1.cps.toList < q.1.cps.toList
def tm : List Pr → Str → Int
  | [], _ => 0
  | p :: ps, x => if p.1 = x then p.2 else tm ps x
structure Canon (ps : List Pr) : Prop where
  pw : ps.Pairwise nmLt
  ge : ∀ p ∈ ps, 1 ≤ p.2
theorem nlt_irr (a : List Nat) : ¬ a < a := fun h => List.lt_irrefl a h
theorem tm_none : ∀ {ps : List Pr} {x : Str}, (∀ p ∈ ps, p.1 ≠ x) → tm ps x = 0
  | [], _, _ => rfl
  | p :: ps, x, h => by
    show (if p.1 = x then p.2 else tm ps x) = 0
    rw [if_neg (h p List.mem_cons_self)]
    exact tm_none fun q hq => h q (List.mem_cons_of_mem _ hq)
theorem tm_mem : ∀ {ps : List Pr}, (ps.map (·.1)).Nodup → ∀ {p : Pr}, p ∈ ps → tm ps p.1 = p.2
  | [], _, _, h => nomatch h
  | q :: ps, nd, p, h => by
    rw [List.map_cons, List.nodup_cons] at nd
    show (if q.1 = p.1 then q.2 else tm ps p.1) = p.2
    rcases List.mem_cons.mp h with rfl | h
    · rw [if_pos rfl]
    · rw [if_neg (fun e : q.1 = p.1 => nd.1 (by rw [e]; exact List.mem_map_of_mem h))]
      exact tm_mem nd.2 h
theorem names_nodup {ps : List Pr} (h : ps.Pairwise nmLt) : (ps.map (·.1)).Nodup := by
  rw [List.Nodup, List.pairwise_map]
  exact h.imp fun {a b} hab e => by
    have hab' : a.1.cps.toList < b.1.cps.toList := hab
    rw [e] at hab'
    exact nlt_irr _ hab'
/-- a dict's entry set -/
def putS (kvs : List Pr) (x : Str) (n : Int) : List Pr := if (kvs.any fun p => decide (p.1 = x)) = true then kvs.map (fun p => if p.1 = x then (p.1, n) else p) else kvs ++ [(x, n)]
theorem tm_app_out {ps : List Pr} {x y : Str} {n : Int} (h : ∀ p ∈ ps, p.1 ≠ y) : tm (ps ++ [(x, n)]) y = if x = y then n else 0 := by
  induction ps with
  | nil => rfl
  | cons p ps ih =>
    show (if p.1 = y then p.2 else tm (ps ++ [(x, n)]) y) = _
    rw [if_neg (h p List.mem_cons_self), ih fun q hq => h q (List.mem_cons_of_mem _ hq)]
theorem tm_app_other {ps : List Pr} {x y : Str} {n : Int} (h : x ≠ y) : tm (ps ++ [(x, n)]) y = tm ps y := by
  induction ps with
  | nil => show (if x = y then n else 0) = 0; rw [if_neg h]
  | cons p ps ih =>
    show (if p.1 = y then p.2 else tm (ps ++ [(x, n)]) y) = if p.1 = y then p.2 else tm ps y
    rw [ih]
theorem tm_map_other {ps : List Pr} {x y : Str} {n : Int} (h : x ≠ y) : tm (ps.map fun p => if p.1 = x then (p.1, n) else p) y = tm ps y := by
  induction ps with
  | nil => rfl
  | cons p ps ih =>
    rw [List.map_cons]
    by_cases hp : p.1 = x
    · rw [if_pos hp]
      show (if p.1 = y then n else tm _ y) = if p.1 = y then p.2 else tm ps y
      rw [if_neg (fun e => h (hp.symm.trans e)), if_neg (fun e => h (hp.symm.trans e)), ih]
    · rw [if_neg hp]
      show (if p.1 = y then p.2 else tm _ y) = if p.1 = y then p.2 else tm ps y
      rw [ih]
theorem tm_map_self {ps : List Pr} {x : Str} {n : Int} (h : ∃ p ∈ ps, p.1 = x) : tm (ps.map fun p => if p.1 = x then (p.1, n) else p) x = n := by
  induction ps with
  | nil => obtain ⟨p, hp, _⟩ := h; nomatch hp
  | cons p ps ih =>
    rw [List.map_cons]
    by_cases hp : p.1 = x
    · rw [if_pos hp]
      show (if p.1 = x then n else _) = n
      rw [if_pos hp]
    · rw [if_neg hp]
      show (if p.1 = x then p.2 else tm _ x) = n
      rw [if_neg hp]
      refine ih ?_
      obtain ⟨q, hq, e⟩ := h
      rcases List.mem_cons.mp hq with rfl | hq
      · exact absurd e hp
      · exact ⟨q, hq, e⟩
theorem tm_put (kvs : List Pr) (x : Str) (n : Int) (y : Str) : tm (putS kvs x n) y = if x = y then n else tm kvs y := by
  unfold putS
  split
  · rename_i h
    rw [List.any_eq_true] at h
    obtain ⟨p, hp, e⟩ := h
    by_cases hy : x = y
    · subst hy; rw [if_pos rfl, tm_map_self ⟨p, hp, of_decide_eq_true e⟩]
    · rw [if_neg hy, tm_map_other hy]
  · rename_i h
    have no : ∀ p ∈ kvs, p.1 ≠ x := fun p hp e => h (List.any_eq_true.mpr ⟨p, hp, decide_eq_true e⟩)
    by_cases hy : x = y
    · subst hy; rw [tm_app_out no, if_pos rfl, if_pos rfl]
    · rw [if_neg hy, tm_app_other hy]
theorem tm_nonneg {ps : List Pr} (h : ∀ p ∈ ps, 0 ≤ p.2) (x : Str) : 0 ≤ tm ps x := by
  induction ps with
  | nil => exact Int.le_refl 0
  | cons p ps ih =>
    show 0 ≤ if p.1 = x then p.2 else tm ps x
    split
    · exact h p List.mem_cons_self
    · exact ih fun q hq => h q (List.mem_cons_of_mem _ hq)
end K06

set_option maxHeartbeats 1000000
namespace K06
open PySem L2
def top (i : Nat) : Stmt := PySem.Challenge.pw_indexwise_k06_lengths_that_exceed.main.body.getD i (.Pass ⟨0, 0, 0, 0⟩)
/-- the names of the text that are built-in -/
structure Txt (K : PySem.W.Frag) (mg : Str → Option Value) : Prop where
  len : mg "len" = none
  isinstance : mg "isinstance" = none
  int : mg "int" = none
  bool : mg "bool" = none
  tuple : mg "tuple" = none
  all : mg "all" = none
  range : mg "range" = none
  enumerate : mg "enumerate" = none
  sorted : mg "sorted" = none
  max : mg "max" = none
  sum : mg "sum" = none
  dict : mg "dict" = none
  set : mg "set" = none
  list : mg "list" = none
  any : mg "any" = none
  reversed : mg "reversed" = none
def nmB (x : Str) : Bool := decide (1 ≤ x.cps.size) && decide (x.cps.size ≤ 8) && x.cps.toList.all fun c => decide (97 ≤ c) && decide (c ≤ 122)
def azB (c : Nat) : Bool := decide (97 ≤ c) && decide (c ≤ 122)
theorem Rep.tup_inv {H : Hp} {ds : List Dv} {v : V} (h : Rep H (.tup ds) v) : ∃ a vs, v = .ref a ∧ H a = some (.tup vs) ∧ Reps H ds vs := by simpa only [Rep] using h
theorem Reps.two {H : Hp} {d e : Dv} {vs : List V} (h : Reps H [d, e] vs) : ∃ x y, vs = [x, y] ∧ Rep H d x ∧ Rep H e y := by
  simp only [Reps] at h
  obtain ⟨x, r, rfl, h1, y, r2, rfl, h2, rfl⟩ := h
  exact ⟨x, y, rfl, h1, h2⟩
end K06

set_option maxHeartbeats 1000000
namespace K06
open PySem L2
abbrev s_cell_at : Stmt := top 5
abbrev s_mixed : Stmt := top 6
def spCell (K : PySem.W.Frag) : Sp := fun vs H Q _ => ∃ (a : Addr) (ns : List Int) (k : Int), vs = [.ref a, .int k] ∧ SqL K H a (ns.map V.int) ∧ ns.length ≤ 63 ∧ 0 ≤ k ∧ ∀ c, Q (.int c) H
def spMixed : Sp := fun vs H Q _ => ∃ (c k : Int), vs = [.int c, .int k] ∧ ∀ m, 0 ≤ m → Q (.int m) H
section
variable {P : Program} {w : World} {K : PySem.W.Frag} {mg : Str → Option Value} {base : Heap}
theorem ints_at {ns : List Int} {k : Int} (h0 : 0 ≤ k) (h : k < (ns.length : Int)) : ∃ v : Int, atI (ns.map V.int) k = some (.int v) := by
  have hk : k.toNat < ns.length := by omega
  have q : atI (ns.map V.int) ((k.toNat : Nat) : Int) = some (.int ns[k.toNat]) := atI_nat (by rw [List.getElem?_map, List.getElem?_eq_getElem hk] <;> rfl)
  have ek : k = ((k.toNat : Nat) : Int) := by omega
  rw [← ek] at q
  exact ⟨_, q⟩
theorem sc_cell_at : FnScope ["_law_script", "_law_k"] ["_law_script", "_law_k"] (defScope s_cell_at) := ⟨rfl, rfl, rfl, by decide +kernel, rfl, by decide +kernel, by decide +kernel⟩
theorem ok_cell_at {f : Addr} {fd : FuncData} (F : Fun K "_law_cell_at" "_law_cell_at" s_cell_at f fd) (T : Txt K mg) : FnOk P w K mg base CX0 1 f fd ["_law_script", "_law_k"] (spCell K) := by
  refine F.ok sc_cell_at (fun vs H Q E h => ?_) (fun cdv A outer s H vs Q E hr h => ?_)
  · obtain ⟨a, ns, k, rfl, _⟩ := h
    rfl
  obtain ⟨a, ns, k, rfl, hS, h63, h0, q⟩ := h
  refine ⟨_, (@pss_cons _ _ _ _ _ (@ps_if _ _ _ _ _ _ _ _ (@pt_cmpR _ _ _ _ _ _ _ _ op_lt (@pv _ 1 _ _ (by rfl) (by first | exact Or.inl rfl | exact Or.inr (Or.inl rfl) | exact Or.inr (Or.inr rfl)) (by decide) (by decide)) (@pe_callB _ _ _ _ _ _ _ _ _ call_len_seq rfl T.len (by decide +kernel) (@pa_cons _ _ _ _ _ (@pv _ 0 _ _ (by rfl) (by first | exact Or.inl rfl | exact Or.inr (Or.inl rfl) | exact Or.inr (Or.inr rfl)) (by decide) (by decide)) (@pa_nil _) (by rfl)) (by decide) (by decide) (by rfl) (by rfl)) (nomark _)) (@pss_one _ _ _ (@ps_ret _ _ _ _ (@pe_ix _ _ _ _ _ _ _ ix_list (@pv _ 0 _ _ (by rfl) (by first | exact Or.inl rfl | exact Or.inr (Or.inl rfl) | exact Or.inr (Or.inr rfl)) (by decide) (by decide)) (@pv _ 1 _ _ (by rfl) (by first | exact Or.inl rfl | exact Or.inr (Or.inl rfl) | exact Or.inr (Or.inr rfl)) (by decide) (by decide)) (fun _ _ => rfl)))) (@pss_nil _)) (@pss_one _ _ _ (@ps_ret _ _ _ _ (@pe_int _ _ _ _)))), ?_⟩
  refine ⟨_, rfl, _, rfl, a, _, rfl, .inl hS, _, _, rfl, rfl, _, rfl, ?_⟩
  refine ite2 (fun c => ?_) (fun c => ?_)
  · have c' := of_decide_eq_true c
    rw [List.length_map] at c'
    obtain ⟨v, hv⟩ := ints_at h0 c'
    exact ⟨_, rfl, _, rfl, a, _, _, _, rfl, rfl, hS, hv, q v⟩
  · exact q 0
theorem pow10 (n : Nat) : (0 : Int) < 10 ^ n := Int.pow_pos (by decide)
theorem sc_mixed : FnScope ["_law_cell", "_law_k", "_law_number", "_law_j"] ["_law_cell", "_law_k"] (defScope s_mixed) := ⟨rfl, rfl, rfl, by decide +kernel, rfl, by decide +kernel, by decide +kernel⟩
theorem ok_mixed {f : Addr} {fd : FuncData} (F : Fun K "_law_mixed" "_law_mixed" s_mixed f fd) (T : Txt K mg) : FnOk P w K mg base CX0 1 f fd ["_law_cell", "_law_k"] spMixed := by
  have nd : (["_law_cell", "_law_k", "_law_number", "_law_j"] : List Str).Nodup := sc_mixed.nd
  refine F.ok sc_mixed (fun vs H Q E h => ?_) (fun cdv A outer s H vs Q E hr h => ?_)
  · obtain ⟨c, k, rfl, _⟩ := h
    rfl
  obtain ⟨c, k, rfl, q⟩ := h
  refine ⟨_, (@pss_cons _ _ _ _ _ (@ps_if _ _ _ _ _ _ _ _ (@PW.pt _ _ _ (@pw_and _ _ _ _ _ _ _ (@pt_cmpR _ _ _ _ _ _ _ _ op_eq (@pe_op _ _ _ _ _ _ _ _ op_mod (@pv _ 0 _ _ (by rfl) (by first | exact Or.inl rfl | exact Or.inr (Or.inl rfl) | exact Or.inr (Or.inr rfl)) (by decide) (by decide)) (@pe_int _ _ _ _)) (@pe_int _ _ _ _) (nomark _)) (@pw_and1 _ _ _ _ (@pt_cmpR _ _ _ _ _ _ _ _ op_gt (@pv _ 0 _ _ (by rfl) (by first | exact Or.inl rfl | exact Or.inr (Or.inl rfl) | exact Or.inr (Or.inr rfl)) (by decide) (by decide)) (@pe_op _ _ _ _ _ _ _ _ op_pow (@pe_int _ _ _ _) (@pe_int _ _ _ _)) (nomark _))))) (@pss_cons _ _ _ _ _ (@ps_set _ _ (2) _ _ _ _ nd rfl (Or.inl rfl) (@pe_op _ _ _ _ _ _ _ _ op_mod (@pe_op _ _ _ _ _ _ _ _ op_fdiv (@pv _ 0 _ _ (by rfl) (by first | exact Or.inl rfl | exact Or.inr (Or.inl rfl) | exact Or.inr (Or.inr rfl)) (by decide) (by decide)) (@pe_int _ _ _ _)) (@pe_op _ _ _ _ _ _ _ _ op_pow (@pe_int _ _ _ _) (@pe_int _ _ _ _))) (by rfl) (by first | exact .inl rfl | exact .inr rfl | assumption)) (@pss_cons _ _ _ _ _ (@ps_for _ _ _ _ _ _ _ _ PassesOwn.never rfl (@pi_range1 _ _ _ _ _ _ rfl T.range (@pa_cons _ _ _ _ _ (@pe_op _ _ _ _ _ _ _ _ op_mod (@pv _ 1 _ _ (by rfl) (by first | exact Or.inl rfl | exact Or.inr (Or.inl rfl) | exact Or.inr (Or.inr rfl)) (by decide) (by decide)) (@pe_int _ _ _ _)) (@pa_nil _) (by rfl)) (by rfl)) (@pg_name _ _ (3) _ nd rfl (Or.inl rfl) (by first | exact .inl rfl | exact .inr rfl | assumption)) (@pss_one _ _ _ (@ps_set _ _ (2) _ _ _ _ nd rfl (Or.inl rfl) (@pe_op _ _ _ _ _ _ _ _ op_fdiv (@pv _ 2 _ _ (by rfl) (by first | exact Or.inl rfl | exact Or.inr (Or.inl rfl) | exact Or.inr (Or.inr rfl)) (by decide) (by decide)) (@pe_int _ _ _ _)) (by rfl) (by first | exact .inl rfl | exact .inr rfl | assumption))) (by intro _; rfl)) (@pss_one _ _ _ (@ps_ret _ _ _ _ (@pv _ 2 _ _ (by rfl) (by first | exact Or.inl rfl | exact Or.inr (Or.inl rfl) | exact Or.inr (Or.inr rfl)) (by decide) (by decide)))))) (@pss_nil _)) (@pss_cons _ _ _ _ _ (@ps_set _ _ (2) _ _ _ _ nd rfl (Or.inl rfl) (@pe_op _ _ _ _ _ _ _ _ op_mod (@pe_op _ _ _ _ _ _ _ _ op_mul (@pe_op _ _ _ _ _ _ _ _ op_add (@pe_op _ _ _ _ _ _ _ _ op_add (@pe_op _ _ _ _ _ _ _ _ op_mod (@pv _ 0 _ _ (by rfl) (by first | exact Or.inl rfl | exact Or.inr (Or.inl rfl) | exact Or.inr (Or.inr rfl)) (by decide) (by decide)) (@pe_op _ _ _ _ _ _ _ _ op_pow (@pe_int _ _ _ _) (@pe_int _ _ _ _))) (@pe_op _ _ _ _ _ _ _ _ op_mul (@pe_int _ _ _ _) (@pv _ 1 _ _ (by rfl) (by first | exact Or.inl rfl | exact Or.inr (Or.inl rfl) | exact Or.inr (Or.inr rfl)) (by decide) (by decide)))) (@pe_int _ _ _ _)) (@pe_int _ _ _ _)) (@pe_int _ _ _ _)) (by rfl) (by first | exact .inl rfl | exact .inr rfl | assumption)) (@pss_one _ _ _ (@ps_ret _ _ _ _ (@pe_op _ _ _ _ _ _ _ _ op_mod (@pe_op _ _ _ _ _ _ _ _ op_mul (@pv _ 2 _ _ (by rfl) (by first | exact Or.inl rfl | exact Or.inr (Or.inl rfl) | exact Or.inr (Or.inr rfl)) (by decide) (by decide)) (@pv _ 2 _ _ (by rfl) (by first | exact Or.inl rfl | exact Or.inr (Or.inl rfl) | exact Or.inr (Or.inr rfl)) (by decide) (by decide))) (@pe_int _ _ _ _)))))), ?_⟩
  have p15 : CPow 10 15 := ⟨by decide, by decide, by decide⟩
  have p60 : CPow 10 60 := ⟨by decide, by decide, by decide⟩
  refine ⟨_, rfl, _, _, rfl, rfl, (by show (0 : Int) < 2; decide), rfl, _, rfl, ?_⟩
  have rest : Q (.int 0) H → True := fun _ => trivial
  have other : ∀ (num : Option V) (j : Option V), ∃ (_ : Unit), True := fun _ _ => ⟨(), trivial⟩
  refine ite2 (fun h2 => ?_) (fun h2 => ?_)
  · refine ⟨_, rfl, _, _, rfl, rfl, p15, _, _, rfl, rfl, _, rfl, ?_⟩
    refine ite2 (fun hb => ?_) (fun hb => ?_)
    · refine ⟨_, rfl, _, _, rfl, rfl, ⟨by decide, by decide⟩, _, _, rfl, rfl, p60, _, _, rfl, rfl, pow10 _, ?_⟩
      refine ⟨_, rfl, _, _, rfl, rfl, (by show (0 : Int) < 8; decide), _, rfl, ?_, ?_, for_range (fun i σ H' => ∃ (n : Int) (j : Option V), σ = [some (.int c), some (.int k), some (.int n), j] ∧ H' = H ∧ 0 ≤ n) ⟨_, _, rfl, rfl, Int.emod_nonneg _ (Int.ne_of_gt (pow10 _))⟩ ?_ ?_⟩
      · have := Int.emod_nonneg k (show (8 : Int) ≠ 0 by decide); omega
      · have := Int.emod_lt_of_pos k (show (0 : Int) < 8 by decide); omega
      · rintro i σ H' hi ⟨n, j, rfl, rfl, hn⟩
        exact ⟨_, rfl, _, _, rfl, rfl, ⟨by decide, by decide⟩, _, _, rfl, rfl, Int.ediv_nonneg hn (by decide)⟩
      · rintro σ H' ⟨n, j, rfl, rfl, hn⟩
        exact ⟨_, rfl, q n hn⟩
    · refine ⟨_, rfl, _, _, rfl, rfl, p60, _, _, rfl, rfl, pow10 _, _, rfl, _, _, rfl, rfl, .inl ⟨by decide, by decide⟩, _, _, rfl, rfl, _, _, rfl, rfl, _, _, rfl, rfl, .inr ⟨by decide, by decide⟩, _, _, rfl, rfl, (by show (0 : Int) < 2147483647; decide), ?_⟩
      refine ⟨_, rfl, _, rfl, _, _, rfl, rfl, .inl ⟨?_, ?_⟩, _, _, rfl, rfl, (by show (0 : Int) < 2147483629; decide), q _ (Int.emod_nonneg _ (by decide))⟩
      · exact Int.lt_of_lt_of_le (by decide) (Int.emod_nonneg _ (by decide))
      · exact Int.lt_trans (Int.emod_lt_of_pos _ (by decide)) (by decide)
  · refine iteF ?_
    refine ⟨_, rfl, _, _, rfl, rfl, p60, _, _, rfl, rfl, pow10 _, _, rfl, _, _, rfl, rfl, .inl ⟨by decide, by decide⟩, _, _, rfl, rfl, _, _, rfl, rfl, _, _, rfl, rfl, .inr ⟨by decide, by decide⟩, _, _, rfl, rfl, (by show (0 : Int) < 2147483647; decide), ?_⟩
    refine ⟨_, rfl, _, rfl, _, _, rfl, rfl, .inl ⟨?_, ?_⟩, _, _, rfl, rfl, (by show (0 : Int) < 2147483629; decide), q _ (Int.emod_nonneg _ (by decide))⟩
    · exact Int.lt_of_lt_of_le (by decide) (Int.emod_nonneg _ (by decide))
    · exact Int.lt_trans (Int.emod_lt_of_pos _ (by decide)) (by decide)
end
end K06

set_option maxHeartbeats 1000000
namespace K06
open PySem L2
abbrev s_names : Stmt := top 7
/-! ### texts of letters -/
def Az (x : Str) (n : Nat) : Prop := x.cps.toList.length = n ∧ ∀ c ∈ x.cps.toList, azB c = true
theorem Az.len {x : Str} {n : Nat} (h : Az x n) : x.length = n := by
  have e : x.cps.toList.length = x.length := Array.length_toList
  rw [← e]; exact h.1
theorem az_app {x y : Str} {n m : Nat} (h : Az x n) (g : Az y m) : Az (x ++ y) (n + m) := by
  have e := PySem.W.KT.app_list x y
  refine ⟨by rw [e, List.length_append, h.1, g.1], fun c hc => ?_⟩
  rw [e] at hc
  rcases List.mem_append.mp hc with hc | hc
  · exact h.2 c hc
  · exact g.2 c hc
theorem az_one {c : Nat} (h : azB c = true) : Az ⟨#[c]⟩ 1 := ⟨rfl, fun d hd => by
  have e : d = c := by simpa using hd
  rw [e]; exact h⟩
theorem az_empty : Az Str.empty 0 := ⟨rfl, fun d hd => by cases hd⟩
theorem az_from {x : Str} {n : Nat} {i : Int} (h : Az x n) (h0 : 0 ≤ i) (h1 : i ≤ n) : Az (Txt.slice x (some i) none) (n - i.toNat) := by
  have e := PyProof.Rows.slice_from_eq (x := x) (i := i) (b := (x.length : Int)) h0 (by rw [h.len]; exact h1) rfl
  rw [e]
  refine ⟨?_, fun c hc => ?_⟩
  · show ((x.cps.toList.drop i.toNat).take ((x.length : Int) - i).toNat).toArray.toList.length = _
    simp only [List.length_take, List.length_drop, h.1, h.len]
    omega
  · have hc' : c ∈ (x.cps.toList.drop i.toNat).take ((x.length : Int) - i).toNat := by simpa using hc
    exact h.2 c (List.mem_of_mem_drop (List.mem_of_mem_take hc'))
theorem az_to {x : Str} {n : Nat} {i : Int} (h : Az x n) (h0 : 0 ≤ i) (h1 : i ≤ n) : Az (Txt.slice x none (some i)) i.toNat := by
  have e := eq_of_beq (PyProof.Rows.slice_closes_toL (x := x) (j := i) h0 (by rw [h.len]; exact h1))
  rw [e]
  refine ⟨?_, fun c hc => ?_⟩
  · show ((x.cps.toList.drop (0 : Int).toNat).take (i - 0).toNat).toArray.toList.length = _
    simp only [List.length_take, List.length_drop, h.1]
    have : (0 : Int).toNat = 0 := rfl
    omega
  · have hc' : c ∈ (x.cps.toList.drop (0 : Int).toNat).take (i - 0).toNat := by simpa using hc
    exact h.2 c (List.mem_of_mem_drop (List.mem_of_mem_take hc'))
theorem az_join : ∀ {ys : List Str}, (∀ y ∈ ys, Az y 1) → Az (Txt.join "" ys) ys.length := fun {ys} h => by
  show Az (Builtin.Str.glued "" ys) _
  rw [StrLaws.glued_eq_join]
  induction ys with
  | nil => exact az_empty
  | cons y ys ih =>
    cases ys with
    | nil => exact h y List.mem_cons_self
    | cons z zs =>
      show Az (y ++ Str.ofString "" ++ Str.join (Str.ofString "") (z :: zs)) _
      have e := az_app (az_app (h y List.mem_cons_self) (show Az (Str.ofString "") 0 from ⟨rfl, fun d hd => by cases hd⟩)) (ih fun w hw => h w (List.mem_cons_of_mem _ hw))
      have e2 : 1 + 0 + (z :: zs).length = (y :: z :: zs).length := by simp only [List.length_cons]; omega
      rwa [e2] at e
theorem az_mul1 {x : Str} {n : Nat} (h : Az x n) : Az (Txt.mul x 1) n := by
  have e : Txt.mul x 1 = x := by
    unfold Txt.mul
    rw [if_neg (by decide)]
    exact if_pos rfl
  rw [e]; exact h
theorem az_mul0 {x : Str} : Az (Txt.mul x 0) 0 := az_empty
theorem az_nm {x : Str} {n : Nat} (h : Az x n) (h1 : 1 ≤ n) (h8 : n ≤ 8) : nmB x = true := by
  unfold nmB
  have e : x.cps.size = n := by have := h.1; simpa using this
  rw [e, decide_eq_true h1, decide_eq_true h8, Bool.and_self, Bool.true_and]
  exact List.all_eq_true.mpr fun c hc => h.2 c hc
theorem letter : ∀ j, j < 26 → ∃ c, (Str.ofString "abcdefghijklmnopqrstuvwxyz").cps.toList[j]? = some c ∧ azB c = true := by
  have h : ∀ j, j < 26 → (Str.ofString "abcdefghijklmnopqrstuvwxyz").cps.toList[j]? = some (97 + j) := by decide +kernel
  intro j hj
  refine ⟨_, h j hj, ?_⟩
  unfold azB
  rw [decide_eq_true (by omega), decide_eq_true (by omega)]
  rfl
theorem letterI {i : Int} (h0 : 0 ≤ i) (h1 : i < 26) : ∃ c, atI (Str.ofString "abcdefghijklmnopqrstuvwxyz").cps.toList i = some c ∧ azB c = true := by
  obtain ⟨c, e, h⟩ := letter i.toNat (by omega)
  have q := atI_nat e
  rw [show ((i.toNat : Nat) : Int) = i by omega] at q
  exact ⟨c, q, h⟩
def spNms : Sp := fun vs H Q _ => ∃ c : Int, vs = [.int c] ∧ ∀ (H' : Hp) (r : Addr) (xs : List Str), Same H H' → H' r = some (.lst (xs.map V.str)) → xs.length = 5 → (∀ x ∈ xs, nmB x = true) → Q (.ref r) H'
theorem mod_lt {a : Int} (n : Int) (h : 0 < n) : 0 ≤ a % n ∧ a % n < n := ⟨Int.emod_nonneg _ (by omega), Int.emod_lt_of_pos _ h⟩
section
variable {P : Program} {w : World} {K : PySem.W.Frag} {mg : Str → Option Value} {base : Heap}
theorem sc_names : FnScope ["_law_cell", "_law_some", "_law_mixed_here", "_law_stem", "_law_at", "_law_ends"] ["_law_cell"] (defScope s_names) := ⟨rfl, rfl, rfl, by decide +kernel, rfl, by decide +kernel, by decide +kernel⟩
theorem ok_names {f : Addr} {fd : FuncData} {k : Nat} (F : Fun K "_law_names" "_law_names" s_names f fd) (T : Txt K mg) (D_law_mixed : Def P w K mg base k "_law_mixed" ["_law_cell", "_law_k"] spMixed) : FnOk P w K mg base CX0 (k + 1) f fd ["_law_cell"] spNms := by
  have nd : (["_law_cell", "_law_some", "_law_mixed_here", "_law_stem", "_law_at", "_law_ends"] : List Str).Nodup := sc_names.nd
  refine F.ok sc_names (fun vs H Q E h => ?_) (fun cdv A outer s H vs Q E hr h => ?_)
  · obtain ⟨c, rfl, _⟩ := h
    rfl
  obtain ⟨c, rfl, q⟩ := h
  refine ⟨_, (@pss_cons _ _ _ _ _ (@ps_set _ _ (1) _ _ _ _ nd rfl (Or.inr rfl) (@pe_str _ _ _ _) (by rfl) (by first | exact .inl rfl | exact .inr rfl | assumption)) (@pss_cons _ _ _ _ _ (@ps_set _ _ (2) _ _ _ _ nd rfl (Or.inr rfl) (@pe_def _ _ _ _ _ _ _ _ _ _ D_law_mixed hr rfl (@pa_cons _ _ _ _ _ (@pv _ 0 _ _ (by rfl) (by first | exact Or.inl rfl | exact Or.inr (Or.inl rfl) | exact Or.inr (Or.inr rfl)) (by decide) (by decide)) (@pa_cons _ _ _ _ _ (@pe_int _ _ _ _) (@pa_nil _) (by rfl)) (by rfl)) (by decide) (by rfl) (by rfl)) (by rfl) (by first | exact .inl rfl | exact .inr rfl | assumption)) (@pss_cons _ _ _ _ _ (@ps_set _ _ (3) _ _ _ _ nd rfl (Or.inr rfl) (@pe_bm _ _ _ _ _ _ _ _ _ _ _ _ PySem.F.plainAttrs_str PySem.F.slot_str_join PySem.F.type_str_join mt_join (@pe_str _ _ _ _) (@pa_cons _ _ _ _ _ (@pe_lc _ _ (["_law_k"]) ([0, 1]) _ _ _ _ _ _ _ _ _ (@pi_range1 _ _ _ _ _ _ rfl T.range (@pa_cons _ _ _ _ _ (@pe_op _ _ _ _ _ _ _ _ op_mod (@pv _ 2 _ _ (by rfl) (by first | exact Or.inl rfl | exact Or.inr (Or.inl rfl) | exact Or.inr (Or.inr rfl)) (by decide) (by decide)) (@pe_int _ _ _ _)) (@pa_nil _) (by rfl)) (by rfl)) (.of rfl) rfl (fun _ _ _ => pg_name (i := 0) (lc_nd (l := ["_law_k", "_law_cell", "_law_some"]) ((by decide +kernel)) rfl) rfl (Or.inl rfl)) (gw_name (by decide)) (fun _ _ _ => (@pif_nil _)) (fun _ _ _ => (@pe_ix _ _ _ _ _ _ _ ix_str (@pv _ 2 _ _ (by rfl) (by first | exact Or.inl rfl | exact Or.inr (Or.inl rfl) | exact Or.inr (Or.inr rfl)) (by decide) (by decide)) (@pe_op _ _ _ _ _ _ _ _ op_mod (@pe_def _ _ _ _ _ _ _ _ _ _ D_law_mixed hr rfl (@pa_cons _ _ _ _ _ (@pv _ 1 _ _ (by rfl) (by first | exact Or.inl rfl | exact Or.inr (Or.inl rfl) | exact Or.inr (Or.inr rfl)) (by decide) (by decide)) (@pa_cons _ _ _ _ _ (@pe_op _ _ _ _ _ _ _ _ op_add (@pe_int _ _ _ _) (@pv _ 0 _ _ (by rfl) (by first | exact Or.inl rfl | exact Or.inr (Or.inl rfl) | exact Or.inr (Or.inr rfl)) (by decide) (by decide))) (@pa_nil _) (by rfl)) (by rfl)) (by decide) (by rfl) (by rfl)) (@pe_int _ _ _ _)) (fun _ _ => rfl))) (by intro _; rfl)) (@pa_nil _) (by rfl)) (by rfl) (by rfl) (by rfl) (by rfl) (by rfl)) (by rfl) (by first | exact .inl rfl | exact .inr rfl | assumption)) (@pss_cons _ _ _ _ _ (@ps_set _ _ (4) _ _ _ _ nd rfl (Or.inr rfl) (@pe_op _ _ _ _ _ _ _ _ op_mod (@pe_op _ _ _ _ _ _ _ _ op_fdiv (@pv _ 2 _ _ (by rfl) (by first | exact Or.inl rfl | exact Or.inr (Or.inl rfl) | exact Or.inr (Or.inr rfl)) (by decide) (by decide)) (@pe_int _ _ _ _)) (@pe_op _ _ _ _ _ _ _ _ op_add (@pe_callB _ _ _ _ _ _ _ _ _ call_len_str rfl T.len (by decide +kernel) (@pa_cons _ _ _ _ _ (@pv _ 3 _ _ (by rfl) (by first | exact Or.inl rfl | exact Or.inr (Or.inl rfl) | exact Or.inr (Or.inr rfl)) (by decide) (by decide)) (@pa_nil _) (by rfl)) (by decide) (by decide) (by rfl) (by rfl)) (@pe_int _ _ _ _))) (by rfl) (by first | exact .inl rfl | exact .inr rfl | assumption)) (@pss_cons _ _ _ _ _ (@ps_set _ _ (5) _ _ _ _ nd rfl (Or.inr rfl) (@pe_lst _ _ _ _ (@pa_cons _ _ _ _ _ (@pe_slice _ _ _ _ _ _ _ _ _ _ sl_str (@pv _ 3 _ _ (by rfl) (by first | exact Or.inl rfl | exact Or.inr (Or.inl rfl) | exact Or.inr (Or.inr rfl)) (by decide) (by decide)) (@po_some _ _ _ (@pv _ 4 _ _ (by rfl) (by first | exact Or.inl rfl | exact Or.inr (Or.inl rfl) | exact Or.inr (Or.inr rfl)) (by decide) (by decide))) (@po_none _)) (@pa_cons _ _ _ _ _ (@pe_op _ _ _ _ _ _ _ _ op_mul_str (@pe_slice _ _ _ _ _ _ _ _ _ _ sl_str (@pv _ 3 _ _ (by rfl) (by first | exact Or.inl rfl | exact Or.inr (Or.inl rfl) | exact Or.inr (Or.inr rfl)) (by decide) (by decide)) (@po_some _ _ _ (@pv _ 4 _ _ (by rfl) (by first | exact Or.inl rfl | exact Or.inr (Or.inl rfl) | exact Or.inr (Or.inr rfl)) (by decide) (by decide))) (@po_none _)) (@pe_callTy _ _ _ _ _ _ _ _ _ call_int1 rfl T.int (by decide +kernel) (@pa_cons _ _ _ _ _ (@pe_cmpR _ _ _ _ _ _ _ _ op_gt (@pe_op _ _ _ _ _ _ _ _ op_mod (@pv _ 2 _ _ (by rfl) (by first | exact Or.inl rfl | exact Or.inr (Or.inl rfl) | exact Or.inr (Or.inr rfl)) (by decide) (by decide)) (@pe_int _ _ _ _)) (@pe_int _ _ _ _) (nomark _)) (@pa_nil _) (by rfl)) (by decide) (by decide) (by rfl) (by rfl))) (@pa_nil _) (by rfl)) (by rfl))) (by rfl) (by first | exact .inl rfl | exact .inr rfl | assumption)) (@pss_one _ _ _ (@ps_ret _ _ _ _ (@pe_lc _ _ (["_law_k"]) ([1, 2, 3, 4, 5]) _ _ _ _ _ _ _ _ _ (@pi_range1 _ _ _ _ _ _ rfl T.range (@pa_cons _ _ _ _ _ (@pe_int _ _ _ _) (@pa_nil _) (by rfl)) (by rfl)) (.of rfl) rfl (fun _ _ _ => pg_name (i := 0) (lc_nd (l := ["_law_k", "_law_some", "_law_mixed_here", "_law_stem", "_law_at", "_law_ends"]) ((by decide +kernel)) rfl) rfl (Or.inl rfl)) (gw_name (by decide)) (fun _ _ _ => (@pif_nil _)) (fun _ _ _ => (@pe_op _ _ _ _ _ _ _ _ op_add_str (@pe_op _ _ _ _ _ _ _ _ op_add_str (@pe_slice _ _ _ _ _ _ _ _ _ _ sl_str (@pv _ 3 _ _ (by rfl) (by first | exact Or.inl rfl | exact Or.inr (Or.inl rfl) | exact Or.inr (Or.inr rfl)) (by decide) (by decide)) (@po_none _) (@po_some _ _ _ (@pv _ 4 _ _ (by rfl) (by first | exact Or.inl rfl | exact Or.inr (Or.inl rfl) | exact Or.inr (Or.inr rfl)) (by decide) (by decide)))) (@pe_ix _ _ _ _ _ _ _ ix_str (@pv _ 1 _ _ (by rfl) (by first | exact Or.inl rfl | exact Or.inr (Or.inl rfl) | exact Or.inr (Or.inr rfl)) (by decide) (by decide)) (@pe_op _ _ _ _ _ _ _ _ op_mod (@pe_op _ _ _ _ _ _ _ _ op_add (@pe_op _ _ _ _ _ _ _ _ op_fdiv (@pv _ 2 _ _ (by rfl) (by first | exact Or.inl rfl | exact Or.inr (Or.inl rfl) | exact Or.inr (Or.inr rfl)) (by decide) (by decide)) (@pe_int _ _ _ _)) (@pe_op _ _ _ _ _ _ _ _ op_mul (@pe_int _ _ _ _) (@pv _ 0 _ _ (by rfl) (by first | exact Or.inl rfl | exact Or.inr (Or.inl rfl) | exact Or.inr (Or.inr rfl)) (by decide) (by decide)))) (@pe_int _ _ _ _)) (fun _ _ => rfl))) (@pe_ix _ _ _ _ _ _ _ (ix_listK K rfl) (@pv _ 5 _ _ (by rfl) (by first | exact Or.inl rfl | exact Or.inr (Or.inl rfl) | exact Or.inr (Or.inr rfl)) (by decide) (by decide)) (@pe_op _ _ _ _ _ _ _ _ op_mod (@pv _ 0 _ _ (by rfl) (by first | exact Or.inl rfl | exact Or.inr (Or.inl rfl) | exact Or.inr (Or.inr rfl)) (by decide) (by decide)) (@pe_int _ _ _ _)) (fun _ _ => rfl)))) (by intro _; rfl))))))))), ?_⟩
  have abc : (Str.ofString "abcdefghijklmnopqrstuvwxyz").length ≤ sizeLine := by rw [sizeLine_eq]; decide +kernel
  refine ⟨_, rfl, c, 99, rfl, fun m hm => ?_⟩
  obtain ⟨m8, m8'⟩ := mod_lt (a := m) 8 (by decide)
  refine ⟨rfl, _, rfl, _, _, rfl, rfl, (by show (0 : Int) < 8; decide), _, rfl, by omega, by omega, ?_⟩
  refine lc_range (fun i ys H' => H' = H ∧ ∃ zs : List Str, ys = zs.map V.str ∧ zs.length = i ∧ ∀ z ∈ zs, Az z 1) ⟨rfl, [], rfl, rfl, by simp⟩ ?_ ?_
  · rintro i ys H' hi ⟨rfl, zs, rfl, hz, hz1⟩
    refine turn_name ⟨_, rfl, _, rfl, _, rfl, _, _, rfl, rfl, _, _, rfl, fun m2 hm2 => ?_⟩
    obtain ⟨b0, b1⟩ := mod_lt (a := m2) 26 (by decide)
    obtain ⟨ch, hc, hz2⟩ := letterI b0 b1
    refine ⟨_, _, rfl, rfl, (by show (0 : Int) < 26; decide), _, _, ch, rfl, rfl, abc, hc, ?_, rfl, zs ++ [⟨#[ch]⟩], by simp, by simp [hz], fun z hz' => ?_⟩
    · rw [List.length_map, sizeLine_eq]; omega
    · rcases List.mem_append.mp hz' with h | h
      · exact hz1 z h
      · have e : z = ⟨#[ch]⟩ := by simpa using h
        rw [e]; exact az_one hz2
  rintro ys H' ⟨rfl, zs, rfl, hz, hz1⟩ a1 ha1
  have az := az_join hz1
  have hz7 : zs.length ≤ 7 := by omega
  have jl : (zs.map (·.length)).sum + zs.length * (Str.ofString "").length ≤ 16777216 := by
    have e : ∀ l : List Str, (∀ z ∈ l, Az z 1) → (l.map (·.length)).sum = l.length := by
      intro l
      induction l with
      | nil => intro _; rfl
      | cons z l ih =>
        intro h
        rw [List.map_cons, List.sum_cons, ih fun w hw => h w (List.mem_cons_of_mem _ hw), (h z List.mem_cons_self).len, List.length_cons]
        omega
    rw [e zs hz1, show (Str.ofString "").length = 0 from rfl, Nat.mul_zero]
    omega
  refine ⟨_, a1, zs, rfl, rfl, SqL.of upd_same, jl, ?_⟩
  have hstem : (Txt.join (Str.ofString "") zs).length ≤ sizeLine := by rw [show (Txt.join (Str.ofString "") zs).length = zs.length from az.len, sizeLine_eq]; omega
  refine ⟨_, rfl, _, _, rfl, rfl, ⟨by decide, by decide⟩, _, rfl, _, rfl, hstem, _, _, rfl, rfl, _, _, rfl, rfl, ?_, ?_⟩
  · show (0 : Int) < ((Txt.join (Str.ofString "") zs).length : Int) + 1
    omega
  have az' : Az (Txt.join (Str.ofString "") zs) zs.length := az
  have ln : ((Txt.join (Str.ofString "") zs).length : Int) = zs.length := by rw [az'.len]
  have at0 : 0 ≤ m / 8 % (((Txt.join (Str.ofString "") zs).length : Int) + 1) := Int.emod_nonneg _ (by omega)
  have at1 : m / 8 % (((Txt.join (Str.ofString "") zs).length : Int) + 1) ≤ zs.length := by have := Int.emod_lt_of_pos (m / 8) (show 0 < ((Txt.join (Str.ofString "") zs).length : Int) + 1 by omega); omega
  obtain ⟨m3, m3'⟩ := mod_lt (a := m) 3 (by decide)
  have zf := az_from az' at0 at1
  have zt := az_to az' at0 at1
  obtain ⟨u, zu, hu⟩ : ∃ u, Az (Txt.mul (Txt.slice (Txt.join (Str.ofString "") zs) (some (m / 8 % (((Txt.join (Str.ofString "") zs).length : Int) + 1))) none) (if decide (0 < m % 3) = true then 1 else 0)) u ∧ u ≤ zs.length - (m / 8 % (((Txt.join (Str.ofString "") zs).length : Int) + 1)).toNat := by
    by_cases h : 0 < m % 3
    · rw [decide_eq_true h]
      exact ⟨_, az_mul1 zf, Nat.le_refl _⟩
    · rw [decide_eq_false h]
      exact ⟨_, az_mul0, Nat.zero_le _⟩
  have sl : (Txt.slice (Txt.join (Str.ofString "") zs) (some (m / 8 % (((Txt.join (Str.ofString "") zs).length : Int) + 1))) none).length ≤ 1000 := by rw [zf.len]; omega
  refine ⟨_, rfl, _, rfl, _, rfl, _, rfl, hstem, _, rfl, _, rfl, _, rfl, _, rfl, hstem, _, rfl, _, _, rfl, rfl, (by show (0 : Int) < 3; decide), _, _, rfl, rfl, .inr ⟨_, rfl, _, _, rfl, rfl, sl, ?_, ?_, (by show 2 ≤ sizeLine; rw [sizeLine_eq]; decide), fun e1 he1 => ?_⟩⟩
  · split <;> decide
  · split <;> decide
  have ne1 : e1 ≠ a1 := fun z => by rw [z, upd_same] at he1; cases he1
  refine ⟨5, rfl, by decide, by decide, lc_range (fun i ys H2 => H2 = upd (upd H' a1 (.lst (zs.map V.str))) e1 (.lst [.str _, .str _]) ∧ ∃ ws : List Str, ys = ws.map V.str ∧ ws.length = i ∧ ∀ z ∈ ws, nmB z = true) ⟨rfl, [], rfl, rfl, by simp⟩ ?_ ?_⟩
  · rintro i ys H2 hi ⟨rfl, ws, rfl, hw, hw1⟩
    obtain ⟨b0, b1⟩ := mod_lt (a := m / 72 + 5 * ((0 : Int) + (i : Int))) 26 (by decide)
    obtain ⟨ch, hc, hz2⟩ := letterI b0 b1
    have z1 := az_app zt (az_one hz2)
    obtain ⟨y, t, hy, zy, ht⟩ : ∃ (y : Str) (t : Nat), atI ([V.str (Txt.slice (Txt.join (Str.ofString "") zs) (some (m / 8 % (((Txt.join (Str.ofString "") zs).length : Int) + 1))) none), V.str (Txt.mul (Txt.slice (Txt.join (Str.ofString "") zs) (some (m / 8 % (((Txt.join (Str.ofString "") zs).length : Int) + 1))) none) (if decide (0 < m % 3) = true then 1 else 0))] : List V) ((0 + (i : Int)) % 2) = some (.str y) ∧ Az y t ∧ t ≤ zs.length - (m / 8 % (((Txt.join (Str.ofString "") zs).length : Int) + 1)).toNat := by
      rcases Int.emod_two_eq (0 + (i : Int)) with h | h
      · rw [h]; exact ⟨_, _, atI_nat (j := 0) rfl, zf, Nat.le_refl _⟩
      · rw [h]; exact ⟨_, _, atI_nat (j := 1) rfl, zu, hu⟩
    have z2 := az_app z1 zy
    refine turn_name ⟨_, rfl, _, rfl, _, rfl, _, rfl, hstem, _, rfl, _, rfl, _, _, rfl, rfl, ⟨by decide, by decide⟩, _, rfl, _, _, rfl, rfl, .inl ⟨by decide, by decide⟩, _, _, rfl, rfl, _, _, rfl, rfl, (by show (0 : Int) < 26; decide), _, _, ch, rfl, rfl, abc, hc, _, _, rfl, rfl, ?_, _, rfl, _, rfl, _, _, rfl, rfl, (by show (0 : Int) < 2; decide), e1, _, _, .str y, rfl, rfl, SqL.of upd_same, hy, _, _, rfl, rfl, ?_, ?_, rfl, ws ++ [Txt.slice (Txt.join (Str.ofString "") zs) none (some (m / 8 % (((Txt.join (Str.ofString "") zs).length : Int) + 1))) ++ ⟨#[ch]⟩ ++ y], by simp, by simp [hw], fun z hz' => ?_⟩
    · rw [zt.len, (az_one hz2).len, sizeLine_eq]; omega
    · rw [z1.len, zy.len, sizeLine_eq]; omega
    · rw [List.length_map, sizeLine_eq]; omega
    · rcases List.mem_append.mp hz' with h | h
      · exact hw1 z h
      · have e := List.mem_singleton.mp h
        rw [e]
        exact az_nm z2 (by omega) (by omega)
  · rintro ys H2 ⟨rfl, ws, rfl, hw, hw1⟩ r hr'
    refine q _ r ws ?_ upd_same hw hw1
    exact (same_new ha1 _).trans ((same_new he1 _).trans (same_new hr' _))
end
end K06

set_option maxHeartbeats 1000000
namespace K06
open PySem L2
abbrev s_made : Stmt := top 8
/-! ### a dict from texts to ints -/
def dk (kvs : List (Str × Int)) : List (Key × V) := kvs.map fun p => (Sum.inr p.1, V.int p.2)
theorem dk_val : ∀ {kvs : List (Str × Int)}, (kvs.map (·.1)).Nodup → ∀ {i : Nat} {p : Str × Int}, kvs[i]? = some p → valV (dk kvs) (Sum.inr p.1) = some (.int p.2)
  | [], _, i, p, e => by simp at e
  | x :: r, nd, i, p, e => by
    rw [List.map_cons, List.nodup_cons] at nd
    cases i with
    | zero =>
      have e' : x = p := by simpa using e
      subst e'
      exact valV_pos (p := (Sum.inr x.1, V.int x.2)) rfl
    | succ i =>
      have hm : p ∈ r := List.mem_of_getElem? (show r[i]? = some p by simpa using e)
      have hne : ¬ (Sum.inr x.1 : Key) = Sum.inr p.1 := fun z => nd.1 (by injection z with z; rw [z]; exact List.mem_map_of_mem hm)
      exact (valV_neg (p := (Sum.inr x.1, V.int x.2)) hne).trans (dk_val nd.2 (i := i) (by simpa using e))
/-- a length as a deep value -/
def lenDv (c : Int) (ps : List (Str × Int)) : Dv := .tup [.int c, .tup (ps.map fun p => .tup [.str p.1, .int p.2])]
def spMade : Sp := fun vs H Q _ => ∃ (c : Int) (d : Addr) (kvs : List (Str × Int)), vs = [.int c, .ref d] ∧ H d = some (.dK (dk kvs)) ∧ (kvs.map (·.1)).Nodup ∧ kvs.length < 64 ∧
  ∀ (H' : Hp) (v : V) (ps : List (Str × Int)), (∀ b o, b ≠ d → H b = some o → H' b = some o) → Rep H' (lenDv c ps) v → ps.Perm (kvs.filter fun p => decide (0 < p.2)) → ps.Pairwise nmLt → Q v H'
def tkV (r : TK) : Str × Int := (r.2.1, match r.2.2 with | [.int n] => n | _ => 0)
theorem reps_tups {H : Hp} : ∀ {rs : List TK}, (∀ r ∈ rs, H r.1 = some (.tup [.str (tkV r).1, .int (tkV r).2])) → Reps H ((rs.map tkV).map fun p => Dv.tup [.str p.1, .int p.2]) (rs.map fun r => V.ref r.1)
  | [], _ => by simp [Reps]
  | r :: rs, h => by
    simp only [List.map_cons, Reps]
    refine ⟨_, _, rfl, ?_, reps_tups fun x hx => h x (List.mem_cons_of_mem _ hx)⟩
    simp only [Rep, Reps]
    exact ⟨r.1, _, rfl, h r List.mem_cons_self, _, _, rfl, rfl, _, _, rfl, rfl, rfl⟩
section
variable {P : Program} {w : World} {K : PySem.W.Frag} {mg : Str → Option Value} {base : Heap}
theorem sc_made : FnScope ["_law_count", "_law_times"] ["_law_count", "_law_times"] (defScope s_made) := ⟨rfl, rfl, rfl, by decide +kernel, rfl, by decide +kernel, by decide +kernel⟩
theorem turn_if {k : Nat} {ix : List Nat} {i : Nat} {tt : TT} {te : TE} {σ : St} {x : V} {ys : List V} {H : Hp} {N : List V → Hp → Prop} (h : tt ((capSt k ix σ).set i (some x)) H fun c H3 => if c = true then te ((capSt k ix σ).set i (some x)) H3 fun y H4 => ys.length < sizeLine ∧ N (ys ++ [y]) H4 else N ys H3) :
    lcTurn k ix (gName i) tt te σ x ys H N := h
theorem ok_made {f : Addr} {fd : FuncData} (F : Fun K "_law_made" "_law_made" s_made f fd) (T : Txt K mg) : FnOk P w K mg base CX0 1 f fd ["_law_count", "_law_times"] spMade := by
  have nd : (["_law_count", "_law_times"] : List Str).Nodup := sc_made.nd
  refine F.ok sc_made (fun vs H Q E h => ?_) (fun cdv A outer s H vs Q E hr h => ?_)
  · obtain ⟨c, d, kvs, rfl, _⟩ := h
    rfl
  obtain ⟨c, d, kvs, rfl, hd, ndk, h64, q⟩ := h
  have hu := hu_of hr
  refine ⟨_, (@pss_one _ _ _ (@ps_ret _ _ _ _ (@pe_tup _ _ _ _ _ (@pa_cons _ _ _ _ _ (@pv _ 0 _ _ (by rfl) (by first | exact Or.inl rfl | exact Or.inr (Or.inl rfl) | exact Or.inr (Or.inr rfl)) (by decide) (by decide)) (@pa_cons _ _ _ _ _ (@pe_callTy _ _ _ _ _ _ _ _ _ call_tuple_of rfl T.tuple (by decide +kernel) (@pa_cons _ _ _ _ _ (@pe_callB _ _ _ _ _ _ _ _ _ call_sortedT rfl T.sorted (by decide +kernel) (@pa_cons _ _ _ _ _ (@pe_lc _ _ (["_law_name"]) ([1]) _ _ _ _ _ _ _ _ _ (@pi_dict _ _ _ _ (@pv _ 1 _ _ (by rfl) (by first | exact Or.inl rfl | exact Or.inr (Or.inl rfl) | exact Or.inr (Or.inr rfl)) (by decide) (by decide))) (.of rfl) rfl (fun _ _ _ => pg_name (i := 0) (lc_nd (l := ["_law_name", "_law_times"]) ((by decide +kernel)) rfl) rfl (Or.inl rfl)) (gw_name (by decide)) (fun _ _ _ => pif_one (@pt_cmpR _ _ _ _ _ _ _ _ op_gt (@pe_dget _ _ _ _ _ _ hu (@pv _ 1 _ _ (by rfl) (by first | exact Or.inl rfl | exact Or.inr (Or.inl rfl) | exact Or.inr (Or.inr rfl)) (by decide) (by decide)) (@pv _ 0 _ _ (by rfl) (by first | exact Or.inl rfl | exact Or.inr (Or.inl rfl) | exact Or.inr (Or.inr rfl)) (by decide) (by decide)) (fun _ _ => rfl)) (@pe_int _ _ _ _) (nomark _))) (fun _ _ _ => (@pe_tup _ _ _ _ _ (@pa_cons _ _ _ _ _ (@pv _ 0 _ _ (by rfl) (by first | exact Or.inl rfl | exact Or.inr (Or.inl rfl) | exact Or.inr (Or.inr rfl)) (by decide) (by decide)) (@pa_cons _ _ _ _ _ (@pe_dget _ _ _ _ _ _ hu (@pv _ 1 _ _ (by rfl) (by first | exact Or.inl rfl | exact Or.inr (Or.inl rfl) | exact Or.inr (Or.inr rfl)) (by decide) (by decide)) (@pv _ 0 _ _ (by rfl) (by first | exact Or.inl rfl | exact Or.inr (Or.inl rfl) | exact Or.inr (Or.inr rfl)) (by decide) (by decide)) (fun _ _ => rfl)) (@pa_nil _) (by rfl)) (by rfl)))) (by intro _; rfl)) (@pa_nil _) (by rfl)) (by decide) (by decide) (by rfl) (by rfl)) (@pa_nil _) (by rfl)) (by decide) (by decide) (by rfl) (by rfl)) (@pa_nil _) (by rfl)) (by rfl))))), ?_⟩
  have hlen : (dk kvs).length = kvs.length := List.length_map _
  have at_ : ∀ {i : Nat} {k : Key} {v : V}, (dk kvs)[i]? = some (k, v) → ∃ p, kvs[i]? = some p ∧ k = Sum.inr p.1 ∧ v = .int p.2 := fun {i k v} e => by
    unfold dk at e
    rw [List.getElem?_map] at e
    cases e2 : kvs[i]? with
    | none => rw [e2] at e; cases e
    | some p =>
      rw [e2] at e
      have e3 : (Sum.inr p.1, V.int p.2) = (k, v) := Option.some.inj e
      injection e3 with e4 e5
      exact ⟨p, rfl, e4.symm, e5.symm⟩
  refine ⟨_, rfl, _, rfl, d, _, rfl, hd, fun o => ?_⟩
  refine lc_by (n := kvs.length) (fun i ys H2 => ∃ rs : List TK, ys = rs.map (fun r => V.ref r.1) ∧ (∀ b o', b ≠ d → H b = some o' → H2 b = some o') ∧ H2 d = some (.frz o (.dK (dk kvs))) ∧ (∀ r ∈ rs, H2 r.1 = some (.tup [.str (tkV r).1, .int (tkV r).2])) ∧ rs.map tkV = (kvs.take i).filter fun p => decide (0 < p.2)) ?_ ?_ ?_ ?_ ?_
  · exact ⟨[], rfl, fun b o' hb e => by rw [upd_ne hb]; exact e, upd_same, by simp, by simp⟩
  · rintro i ys H2 hi ⟨rs, rfl, s2, f2, _⟩
    exact ⟨f2, by rw [hlen]; exact hi⟩
  · rintro ys H2 ⟨rs, rfl, s2, f2, _⟩
    exact ⟨f2, hlen.symm⟩
  · rintro i ys H2 x H3 hi ⟨rs, rfl, s2, f2, t2, e2⟩ ⟨rfl, k, v, hk, rfl⟩
    obtain ⟨p, hp, rfl, rfl⟩ := at_ hk
    have gd : ∀ H4 : Hp, H4 d = some (.frz o (.dK (dk kvs))) → DGet H4 d (.str p.1) (some (.int p.2)) := fun H4 e => .inl ⟨dk kvs, Sum.inr p.1, .inr ⟨o, e⟩, rfl, (dk_val ndk hp).symm⟩
    have ht : kvs.take (i + 1) = kvs.take i ++ [p] := by rw [List.take_add_one, hp]; rfl
    have hrs : rs.length ≤ 64 := by
      have := congrArg List.length e2
      rw [List.length_map] at this
      have h3 := List.length_filter_le (fun p : Str × Int => decide (0 < p.2)) (kvs.take i)
      rw [List.length_take] at h3
      omega
    refine turn_if ⟨_, rfl, _, rfl, d, _, rfl, gd _ f2, _, _, rfl, rfl, _, rfl, ?_⟩
    by_cases hp0 : 0 < p.2
    · rw [decide_eq_true hp0]
      refine iteT ⟨_, rfl, _, rfl, _, rfl, d, _, rfl, gd _ f2, (by show 2 ≤ sizeLine; rw [sizeLine_eq]; decide), fun a ha => ⟨by rw [List.length_map, sizeLine_eq]; omega, rs ++ [(a, p.1, [.int p.2])], by simp, fun b o' hb e => ?_, ?_, fun r hr' => ?_, ?_⟩⟩
      · rw [upd_ne (ne_of_none (s2 b o' hb e) ha)]; exact s2 b o' hb e
      · rw [upd_ne (ne_of_none f2 ha)]; exact f2
      · rcases List.mem_append.mp hr' with h | h
        · rw [upd_ne (ne_of_none (t2 r h) ha)]; exact t2 r h
        · have e := List.mem_singleton.mp h
          subst e
          exact upd_same
      · rw [List.map_append, e2, ht, List.filter_append]
        simp [tkV, hp0]
    · rw [decide_eq_false hp0]
      refine iteF ⟨rs, rfl, s2, f2, t2, ?_⟩
      rw [e2, ht, List.filter_append]
      simp [hp0]
  · rintro ys H2 ⟨rs, rfl, s2, f2, t2, e2⟩ a ha
    rw [List.take_length] at e2
    have n2 : rs.length < 64 := by
      have := congrArg List.length e2
      rw [List.length_map] at this
      have h3 := List.length_filter_le (fun p : Str × Int => decide (0 < p.2)) kvs
      omega
    have shape : ∀ r ∈ rs, ∃ n, r.2.2 = [.int n] ∨ True := fun r _ => ⟨0, .inr trivial⟩
    refine ⟨a, rs.map fun r => (r.1, (tkV r).1, [.int (tkV r).2]), rfl, SqL.of ?_, fun r hr' => ?_, ?_, by rw [List.length_map]; exact n2, fun qs l pq pw hl => ?_⟩
    · rw [upd_same, List.map_map]; rfl
    · obtain ⟨r0, h0, rfl⟩ := List.mem_map.mp hr'
      rw [upd_ne (ne_of_none (t2 r0 h0) ha)]
      exact t2 r0 h0
    · rw [List.map_map]
      have e3 : rs.map ((fun x : TK => x.2.1) ∘ fun r => ((r.1, (tkV r).1, [V.int (tkV r).2]) : TK)) = (rs.map tkV).map (·.1) := by rw [List.map_map]; rfl
      rw [e3, e2]
      exact (List.filter_sublist.map _).nodup ndk
    refine ⟨l, _, rfl, .inl ⟨SqL.of upd_same, fun u hu' => ⟨(by show 2 ≤ sizeLine; rw [sizeLine_eq]; decide), fun t ht' => ?_⟩⟩⟩
    have inq : ∀ r ∈ qs, H2 r.1 = some (.tup [.str (tkV r).1, .int (tkV r).2]) := fun r hr' => by
      obtain ⟨r0, h0, rfl⟩ := List.mem_map.mp (pq.mem_iff.mp hr')
      exact t2 r0 h0
    have sm : ∀ b o', H2 b = some o' → upd (upd (upd (upd H2 a (.lst (rs.map fun r => V.ref r.1))) l (.lst (qs.map fun r => V.ref r.1))) u (.tup (qs.map fun r => V.ref r.1))) t (.tup [.int c, .ref u]) b = some o' :=
      (same_new ha _).trans ((same_new hl _).trans ((same_new hu' _).trans (same_new ht' _)))
    refine q _ (.ref t) (qs.map tkV) (fun b o' hb e => sm b o' (s2 b o' hb e)) ?_ ?_ ?_
    · simp only [lenDv, Rep, Reps]
      refine ⟨t, _, rfl, upd_same, _, _, rfl, rfl, _, _, rfl, ⟨u, qs.map fun r => V.ref r.1, rfl, ?_, reps_tups fun r hr' => sm _ _ (inq r hr')⟩, rfl⟩
      rw [upd_ne (ne_of_none upd_same ht'), upd_same]
    · have := pq.map tkV
      rw [List.map_map] at this
      have e3 : rs.map (tkV ∘ fun r => ((r.1, (tkV r).1, [V.int (tkV r).2]) : TK)) = rs.map tkV := by rfl
      rw [e3, e2] at this
      exact this
    · exact List.pairwise_map.mpr (pw.imp fun {x y} h => h)
end
end K06

set_option maxHeartbeats 1000000
namespace K06
open PySem L2
abbrev s_drawn : Stmt := top 9
theorem inr_iff {a b : Str} : ((Sum.inr a : Key) = Sum.inr b) ↔ a = b := ⟨fun h => by injection h, fun h => by rw [h]⟩
theorem dk_put (kvs : List (Str × Int)) (x : Str) (n : Int) : dk (putS kvs x n) = putK (dk kvs) (Sum.inr x) (.int n) := by
  unfold putS putK dk
  have e : ((kvs.map fun p => ((Sum.inr p.1 : Key), V.int p.2)).any fun kv => decide (kv.1 = Sum.inr x)) = kvs.any fun p => decide (p.1 = x) := by
    rw [List.any_map]
    congr 1
    funext p
    simp [Function.comp]
  rw [e]
  split
  · rw [List.map_map, List.map_map]
    refine List.map_congr_left fun p _ => ?_
    simp only [Function.comp]
    by_cases h : p.1 = x
    · rw [if_pos h, if_pos (inr_iff.mpr h)]
    · rw [if_neg h, if_neg (fun z => h (inr_iff.mp z))]
  · rw [List.map_append]
    rfl
theorem putS_keys {kvs : List (Str × Int)} {x : Str} {n : Int} (nd : (kvs.map (·.1)).Nodup) : ((putS kvs x n).map (·.1)).Nodup := by
  unfold putS
  split
  · have e : (kvs.map (fun p => if p.1 = x then (p.1, n) else p)).map (·.1) = kvs.map (·.1) := by
      rw [List.map_map]
      refine List.map_congr_left fun p _ => ?_
      simp only [Function.comp]
      split <;> rfl
    rw [e]; exact nd
  · rename_i h
    rw [List.map_append, List.nodup_append]
    refine ⟨nd, by simp, fun a ha b hb => ?_⟩
    have hb' : b = x := by simpa using hb
    subst hb'
    intro e
    subst e
    obtain ⟨p, hp, e⟩ := List.mem_map.mp ha
    exact h (List.any_eq_true.mpr ⟨p, hp, decide_eq_true e⟩)
theorem putS_len (kvs : List (Str × Int)) (x : Str) (n : Int) : (putS kvs x n).length ≤ kvs.length + 1 := by
  unfold putS
  split
  · rw [List.length_map]; omega
  · rw [List.length_append]; simp
theorem putS_all {R : Str × Int → Prop} {kvs : List (Str × Int)} {x : Str} {n : Int} (h : ∀ p ∈ kvs, R p) (hx : R (x, n)) : ∀ p ∈ putS kvs x n, R p := by
  intro p hp
  unfold putS at hp
  split at hp
  · obtain ⟨q, hq, e⟩ := List.mem_map.mp hp
    by_cases z : q.1 = x
    · rw [if_pos z] at e
      rw [← e, z]; exact hx
    · rw [if_neg z] at e
      rw [← e]; exact h q hq
  · rcases List.mem_append.mp hp with hp | hp
    · exact h p hp
    · rw [List.mem_singleton.mp hp]; exact hx
/-- what the parts of a drawn length are -/
structure Good (xs : List Str) (ps : List (Str × Int)) : Prop where
  pw : ps.Pairwise nmLt
  nm : ∀ p ∈ ps, nmB p.1 = true ∧ p.1 ∈ xs
  ge : ∀ p ∈ ps, 1 ≤ p.2
  len : ps.length ≤ 63
def spDrawn (K : PySem.W.Frag) : Sp := fun vs H Q _ => ∃ (a b : Addr) (ns : List Int) (xs : List Str), vs = [.ref a, .ref b] ∧ SqL K H a (ns.map V.int) ∧ ns.length ≤ 63 ∧ H b = some (.lst (xs.map V.str)) ∧ xs.length = 5 ∧ (∀ x ∈ xs, nmB x = true) ∧
  ∀ (H' : Hp) (v : V) (c : Int) (ps : List (Str × Int)), Same H H' → Rep H' (lenDv c ps) v → 0 ≤ c → Good xs ps → c ≤ 64 * 10 ^ 58 → (∀ p ∈ ps, p.2 ≤ 10 ^ 58) → Q v H'
section
variable {P : Program} {w : World} {K : PySem.W.Frag} {mg : Str → Option Value} {base : Heap}
theorem pick4 {a b c d i B : Int} (ha : 0 ≤ a ∧ a ≤ B) (hb : 0 ≤ b ∧ b ≤ B) (hc : 0 ≤ c ∧ c ≤ B) (hd : 0 ≤ d ∧ d ≤ B) (h0 : 0 ≤ i) (h1 : i < 4) : ∃ n : Int, atI ([V.int a, V.int b, V.int c, V.int d] : List V) i = some (.int n) ∧ 0 ≤ n ∧ n ≤ B := by
  have e : i = 0 ∨ i = 1 ∨ i = 2 ∨ i = 3 := by omega
  rcases e with rfl | rfl | rfl | rfl
  · exact ⟨a, atI_nat (j := 0) rfl, ha⟩
  · exact ⟨b, atI_nat (j := 1) rfl, hb⟩
  · exact ⟨c, atI_nat (j := 2) rfl, hc⟩
  · exact ⟨d, atI_nat (j := 3) rfl, hd⟩
theorem pick5 {xs : List Str} {i : Int} (hl : xs.length = 5) (h0 : 0 ≤ i) (h1 : i < 5) : ∃ x ∈ xs, atI (xs.map V.str) i = some (.str x) := by
  have hk : i.toNat < xs.length := by omega
  have q := atI_nat (xs := xs.map V.str) (j := i.toNat) (v := .str xs[i.toNat]) (by rw [List.getElem?_map, List.getElem?_eq_getElem hk]; rfl)
  rw [show ((i.toNat : Nat) : Int) = i by omega] at q
  exact ⟨_, List.getElem_mem hk, q⟩
theorem sc_drawn : FnScope ["_law_cells", "_law_names_here", "_law_count", "_law_times", "_law_k", "_law_cell", "_law_mixed_here", "_law_many"] ["_law_cells", "_law_names_here"] (defScope s_drawn) := ⟨rfl, rfl, rfl, by decide +kernel, rfl, by decide +kernel, by decide +kernel⟩
theorem ok_drawn {f : Addr} {fd : FuncData} {k : Nat} (F : Fun K "_law_drawn" "_law_drawn" s_drawn f fd) (T : Txt K mg) (D_law_mixed : Def P w K mg base k "_law_mixed" ["_law_cell", "_law_k"] spMixed) (D_law_made : Def P w K mg base k "_law_made" ["_law_count", "_law_times"] spMade) :
    FnOk P w K mg base CX0 (k + 1) f fd ["_law_cells", "_law_names_here"] (spDrawn K) := by
  have nd : (["_law_cells", "_law_names_here", "_law_count", "_law_times", "_law_k", "_law_cell", "_law_mixed_here", "_law_many"] : List Str).Nodup := sc_drawn.nd
  refine F.ok sc_drawn (fun vs H Q E h => ?_) (fun cdv A outer s H vs Q E hr h => ?_)
  · obtain ⟨a, b, ns, xs, rfl, _⟩ := h
    rfl
  obtain ⟨a, b, ns, xs, rfl, hS, h63, hb, h5, hnm, q⟩ := h
  have hu := hu_of hr
  refine ⟨_, (@pss_cons _ _ _ _ _ (@ps_set _ _ (2) _ _ _ _ nd rfl (Or.inl rfl) (@pe_int _ _ _ _) (by rfl) (by first | exact .inl rfl | exact .inr rfl | assumption)) (@pss_cons _ _ _ _ _ (@ps_set _ _ (3) _ _ _ _ nd rfl (Or.inl rfl) (@pe_dnewK _ _) (by rfl) (by first | exact .inl rfl | exact .inr rfl | assumption)) (@pss_cons _ _ _ _ _ (@ps_for _ _ _ _ _ _ _ _ PassesOwn.never rfl (@pi_enum _ _ _ _ _ _ _ _ rfl T.enumerate (@pa_cons _ _ _ _ _ (@pv _ 0 _ _ (by rfl) (by first | exact Or.inl rfl | exact Or.inr (Or.inl rfl) | exact Or.inr (Or.inr rfl)) (by decide) (by decide)) (@pa_nil _) (by rfl)) (by rfl)) (@pg_tup _ _ _ _ _ _ rfl (@pgs_cons _ _ _ _ _ (@pg_name _ _ (4) _ nd rfl (Or.inl rfl) (by first | exact .inl rfl | exact .inr rfl | assumption)) (@pgs_cons _ _ _ _ _ (@pg_name _ _ (5) _ nd rfl (Or.inl rfl) (by first | exact .inl rfl | exact .inr rfl | assumption)) (@pgs_nil _) (by rfl)) (by rfl)) (by rfl) (by rfl)) (@pss_cons _ _ _ _ _ (@ps_set _ _ (6) _ _ _ _ nd rfl (Or.inl rfl) (@pe_def _ _ _ _ _ _ _ _ _ _ D_law_mixed hr rfl (@pa_cons _ _ _ _ _ (@pv _ 5 _ _ (by rfl) (by first | exact Or.inl rfl | exact Or.inr (Or.inl rfl) | exact Or.inr (Or.inr rfl)) (by decide) (by decide)) (@pa_cons _ _ _ _ _ (@pv _ 4 _ _ (by rfl) (by first | exact Or.inl rfl | exact Or.inr (Or.inl rfl) | exact Or.inr (Or.inr rfl)) (by decide) (by decide)) (@pa_nil _) (by rfl)) (by rfl)) (by decide) (by rfl) (by rfl)) (by rfl) (by first | exact .inl rfl | exact .inr rfl | assumption)) (@pss_cons _ _ _ _ _ (@ps_set _ _ (7) _ _ _ _ nd rfl (Or.inl rfl) (@pe_ix _ _ _ _ _ _ _ ix_list (@pe_lst _ _ _ _ (@pa_cons _ _ _ _ _ (@pe_op _ _ _ _ _ _ _ _ op_mod (@pe_op _ _ _ _ _ _ _ _ op_fdiv (@pv _ 6 _ _ (by rfl) (by first | exact Or.inl rfl | exact Or.inr (Or.inl rfl) | exact Or.inr (Or.inr rfl)) (by decide) (by decide)) (@pe_int _ _ _ _)) (@pe_int _ _ _ _)) (@pa_cons _ _ _ _ _ (@pe_op _ _ _ _ _ _ _ _ op_mod (@pe_op _ _ _ _ _ _ _ _ op_fdiv (@pv _ 6 _ _ (by rfl) (by first | exact Or.inl rfl | exact Or.inr (Or.inl rfl) | exact Or.inr (Or.inr rfl)) (by decide) (by decide)) (@pe_int _ _ _ _)) (@pe_int _ _ _ _)) (@pa_cons _ _ _ _ _ (@pe_op _ _ _ _ _ _ _ _ op_mod (@pv _ 5 _ _ (by rfl) (by first | exact Or.inl rfl | exact Or.inr (Or.inl rfl) | exact Or.inr (Or.inr rfl)) (by decide) (by decide)) (@pe_op _ _ _ _ _ _ _ _ op_pow (@pe_int _ _ _ _) (@pe_int _ _ _ _))) (@pa_cons _ _ _ _ _ (@pe_int _ _ _ _) (@pa_nil _) (by rfl)) (by rfl)) (by rfl)) (by rfl))) (@pe_op _ _ _ _ _ _ _ _ op_mod (@pe_op _ _ _ _ _ _ _ _ op_fdiv (@pv _ 6 _ _ (by rfl) (by first | exact Or.inl rfl | exact Or.inr (Or.inl rfl) | exact Or.inr (Or.inr rfl)) (by decide) (by decide)) (@pe_int _ _ _ _)) (@pe_int _ _ _ _)) (fun _ _ => rfl)) (by rfl) (by first | exact .inl rfl | exact .inr rfl | assumption)) (@pss_one _ _ _ (@ps_if _ _ _ _ _ _ _ _ (@pt_cmpR _ _ _ _ _ _ _ _ op_lt (@pe_op _ _ _ _ _ _ _ _ op_mod (@pv _ 6 _ _ (by rfl) (by first | exact Or.inl rfl | exact Or.inr (Or.inl rfl) | exact Or.inr (Or.inr rfl)) (by decide) (by decide)) (@pe_int _ _ _ _)) (@pe_int _ _ _ _) (nomark _)) (@pss_one _ _ _ (@ps_set _ _ (2) _ _ _ _ nd rfl (Or.inl rfl) (@pe_op _ _ _ _ _ _ _ _ op_add (@pv _ 2 _ _ (by rfl) (by first | exact Or.inl rfl | exact Or.inr (Or.inl rfl) | exact Or.inr (Or.inr rfl)) (by decide) (by decide)) (@pv _ 7 _ _ (by rfl) (by first | exact Or.inl rfl | exact Or.inr (Or.inl rfl) | exact Or.inr (Or.inr rfl)) (by decide) (by decide))) (by rfl) (by first | exact .inl rfl | exact .inr rfl | assumption))) (@pss_one _ _ _ (@ps_dput _ _ _ _ _ _ _ _ _ hu (@pv _ 3 _ _ (by rfl) (by first | exact Or.inl rfl | exact Or.inr (Or.inl rfl) | exact Or.inr (Or.inr rfl)) (by decide) (by decide)) (@pe_ix _ _ _ _ _ _ _ ix_list (@pv _ 1 _ _ (by rfl) (by first | exact Or.inl rfl | exact Or.inr (Or.inl rfl) | exact Or.inr (Or.inr rfl)) (by decide) (by decide)) (@pe_op _ _ _ _ _ _ _ _ op_mod (@pv _ 6 _ _ (by rfl) (by first | exact Or.inl rfl | exact Or.inr (Or.inl rfl) | exact Or.inr (Or.inr rfl)) (by decide) (by decide)) (@pe_int _ _ _ _)) (fun _ _ => rfl)) (@pv _ 7 _ _ (by rfl) (by first | exact Or.inl rfl | exact Or.inr (Or.inl rfl) | exact Or.inr (Or.inr rfl)) (by decide) (by decide)) rfl)))))) (by intro _; rfl)) (@pss_one _ _ _ (@ps_ret _ _ _ _ (@pe_def _ _ _ _ _ _ _ _ _ _ D_law_made hr rfl (@pa_cons _ _ _ _ _ (@pv _ 2 _ _ (by rfl) (by first | exact Or.inl rfl | exact Or.inr (Or.inl rfl) | exact Or.inr (Or.inr rfl)) (by decide) (by decide)) (@pa_cons _ _ _ _ _ (@pv _ 3 _ _ (by rfl) (by first | exact Or.inl rfl | exact Or.inr (Or.inl rfl) | exact Or.inr (Or.inr rfl)) (by decide) (by decide)) (@pa_nil _) (by rfl)) (by rfl)) (by decide) (by rfl) (by rfl))))))), ?_⟩
  intro d hd
  have s0 : Same H (upd H d (.dK [])) := same_new hd _
  refine ⟨_, rfl, a, rfl, ⟨_, s0.seq hS⟩, for_enum (xs := ns.map V.int) (fun i σ H' => ∃ (c : Int) (kvs : List (Str × Int)) (o1 o2 o3 o4 : Option V), σ = [some (.ref a), some (.ref b), some (.int c), some (.ref d), o1, o2, o3, o4] ∧ Same H H' ∧ H' d = some (.dK (dk kvs)) ∧ 0 ≤ c ∧ (kvs.map (·.1)).Nodup ∧ kvs.length ≤ i ∧ (∀ p ∈ kvs, p.1 ∈ xs ∧ 0 ≤ p.2 ∧ p.2 ≤ 10 ^ 58) ∧ c ≤ i * 10 ^ 58)
    ⟨0, [], _, _, _, _, rfl, s0, upd_same, Int.le_refl 0, by simp, by simp, by simp, by simp⟩ (fun i σ H' _ ⟨_, _, _, _, _, _, _, s1, _⟩ => s1.seq hS) ?_ ?_⟩
  · rintro i x σ H1 p hx ⟨c, kvs, o1, o2, o3, o4, rfl, s1, d1, hc, ndk, hl, hall, hcb⟩ hp
    obtain ⟨z, rfl⟩ : ∃ z, x = V.int z := by
      rw [List.getElem?_map] at hx
      cases e : ns[i]? with
      | none => rw [e] at hx; cases hx
      | some z => rw [e] at hx; exact ⟨z, (Option.some.inj hx).symm⟩
    have hi : i < ns.length := by
      have := (List.getElem?_eq_some_iff.mp hx).1
      rwa [List.length_map] at this
    have s2 : Same H1 (upd H1 p (.tup [.int i, .int z])) := same_new hp _
    refine ⟨p, _, rfl, SqT.of upd_same, rfl, _, _, rfl, _, _, rfl, rfl, ?_⟩
    refine ⟨_, rfl, _, rfl, z, i, rfl, fun m hm => ?_⟩
    obtain ⟨a0, a1⟩ := mod_lt (a := m / 8) 4 (by decide)
    have e58 : (10 : Int) ^ (58 : Int).toNat = 10 ^ 58 := rfl
    obtain ⟨n, hn, n0, nB⟩ := pick4 (a := m / 40 % 4) (b := m / 40 % 100) (c := z % 10 ^ (58 : Int).toNat) (d := 1) (B := 10 ^ 58) ⟨(mod_lt 4 (by decide)).1, by have := (mod_lt (a := m / 40) 4 (by decide)).2; omega⟩ ⟨(mod_lt 100 (by decide)).1, by have := (mod_lt (a := m / 40) 100 (by decide)).2; omega⟩ ⟨Int.emod_nonneg _ (Int.ne_of_gt (pow10 _)), by have := Int.emod_lt_of_pos z (pow10 (58 : Int).toNat); rw [e58] at this ⊢; omega⟩ ⟨by decide, by omega⟩ a0 a1
    refine ⟨_, rfl, _, _, rfl, rfl, ⟨by decide, by decide⟩, _, _, rfl, rfl, (by show (0 : Int) < 4; decide), _, rfl, _, _, rfl, rfl, ⟨by decide, by decide⟩, _, _, rfl, rfl, (by show (0 : Int) < 100; decide), _, rfl, _, _, rfl, rfl, ⟨by decide, by decide, by decide⟩, _, _, rfl, rfl, pow10 _, (by show 4 ≤ sizeLine; rw [sizeLine_eq]; decide), fun l hl' => ?_⟩
    have s3 := s2.trans (same_new hl' (.lst [.int (m / 40 % 4), .int (m / 40 % 100), .int (z % 10 ^ (58 : Int).toNat), .int 1]))
    refine ⟨_, rfl, _, _, rfl, rfl, ⟨by decide, by decide⟩, _, _, rfl, rfl, (by show (0 : Int) < 4; decide), l, _, _, .int n, rfl, rfl, SqL.of upd_same, hn, ?_⟩
    refine ⟨_, rfl, _, _, rfl, rfl, (by show (0 : Int) < 8; decide), _, _, rfl, rfl, _, rfl, ?_⟩
    have d3 := s3 _ _ d1
    refine ite2 (fun h2 => ?_) (fun h2 => ?_)
    · refine ⟨_, rfl, _, rfl, _, _, rfl, rfl, _, kvs, _, _, _, _, rfl, s1.trans s3, d3, Int.add_nonneg hc n0, ndk, by omega, hall, by omega⟩
    · obtain ⟨b0, b1⟩ := mod_lt (a := m) 5 (by decide)
      obtain ⟨nm, hnm', ha⟩ := pick5 h5 b0 b1
      refine ⟨_, rfl, _, rfl, _, rfl, _, rfl, _, _, rfl, rfl, (by show (0 : Int) < 5; decide), b, _, _, .str nm, rfl, rfl, SqL.of (s3 _ _ (s1 _ _ hb)), ha, d, _, rfl, DPut.k (k := Sum.inr nm) d3 (by rw [show (dk kvs).length = kvs.length from List.length_map _, sizeLine_eq]; omega), ?_⟩
      refine ⟨c, putS kvs nm n, _, _, _, _, rfl, fun e o he => ?_, ?_, hc, putS_keys ndk, Nat.le_trans (putS_len _ _ _) (by omega), putS_all (R := fun p => p.1 ∈ xs ∧ 0 ≤ p.2 ∧ p.2 ≤ 10 ^ 58) hall ⟨hnm', n0, nB⟩, by omega⟩
      · rw [upd_ne (ne_of_none he hd)]
        exact s3 _ _ (s1 _ _ he)
      · rw [upd_same, dk_put]
  · rintro σ H1 ⟨c, kvs, o1, o2, o3, o4, rfl, s1, d1, hc, ndk, hl, hall, hcb⟩
    rw [List.length_map] at hl
    refine ⟨_, rfl, _, rfl, c, d, kvs, rfl, d1, ndk, by omega, fun H' v ps s2 R pp pw => ?_⟩
    have mem : ∀ p ∈ ps, p ∈ kvs ∧ 0 < p.2 := fun p hp => by
      have := List.mem_filter.mp (pp.mem_iff.mp hp)
      exact ⟨this.1, of_decide_eq_true this.2⟩
    rw [List.length_map] at hcb
    refine q H' v c ps (fun e o he => s2 e o (ne_of_none he hd) (s1 _ _ he)) R hc ⟨pw, fun p hp => ⟨hnm _ (hall p (mem p hp).1).1, (hall p (mem p hp).1).1⟩, fun p hp => (mem p hp).2, ?_⟩ (by omega) (fun p hp => (hall p (mem p hp).1).2.2)
    rw [pp.length_eq]
    exact Nat.le_trans (List.length_filter_le _ _) (by omega)
end
end K06

set_option maxHeartbeats 1000000
namespace K06
open PySem L2
abbrev partsDv (ps : List Pr) : List Dv := ps.map fun p => .tup [.str p.1, .int p.2]
theorem part_at {H : Hp} {ps : List Pr} {us : List V} (ru : Reps H (partsDv ps) us) {i : Nat} {x : V} (hx : us[i]? = some x) : ∃ p b, ps[i]? = some p ∧ x = .ref b ∧ H b = some (.tup [.str p.1, .int p.2]) := by
  obtain ⟨d, hd, Rd⟩ := ru.get hx
  rw [List.getElem?_map] at hd
  cases e : ps[i]? with
  | none => rw [e] at hd; cases hd
  | some p =>
    rw [e] at hd
    obtain rfl : Dv.tup [.str p.1, .int p.2] = d := Option.some.inj hd
    obtain ⟨b, zs, rfl, hb, rz⟩ := Rep.tup_inv Rd
    obtain ⟨y, z, rfl, Ry, Rz⟩ := Reps.two rz
    simp only [Rep] at Ry Rz
    subst Ry Rz
    exact ⟨p, b, rfl, rfl, hb⟩
theorem len_inv {H : Hp} {c : Int} {ps : List Pr} {v : V} (R : Rep H (lenDv c ps) v) : ∃ a b us, v = .ref a ∧ H a = some (.tup [.int c, .ref b]) ∧ H b = some (.tup us) ∧ Reps H (partsDv ps) us ∧ us.length = ps.length := by
  obtain ⟨a, tv, rfl, ha, rt⟩ := Rep.tup_inv R
  obtain ⟨x, y, rfl, R0, R1⟩ := Reps.two rt
  simp only [Rep] at R0
  subst R0
  obtain ⟨b, us, rfl, hb, ru⟩ := Rep.tup_inv R1
  have := ru.length
  rw [List.length_map] at this
  exact ⟨a, b, us, rfl, ha, hb, ru, this⟩
theorem len_rep {H : Hp} {c : Int} {ps : List Pr} {a b : Addr} {us : List V} (ha : H a = some (.tup [.int c, .ref b])) (hb : H b = some (.tup us)) (ru : Reps H (partsDv ps) us) : Rep H (lenDv c ps) (.ref a) := by
  simp only [lenDv, Rep, Reps]
  exact ⟨a, _, rfl, ha, _, _, rfl, rfl, _, _, rfl, ⟨b, us, rfl, hb, ru⟩, rfl⟩
theorem dk_tm : ∀ (kvs : List Pr) (x : Str), (valV (dk kvs) (Sum.inr x)).getD (.int 0) = V.int (tm kvs x)
  | [], x => rfl
  | p :: r, x => by
    by_cases h : p.1 = x
    · have e1 : valV (dk (p :: r)) (Sum.inr x) = some (.int p.2) := valV_pos (p := (Sum.inr p.1, V.int p.2)) (by rw [h])
      rw [e1]
      show V.int p.2 = V.int (if p.1 = x then p.2 else tm r x)
      rw [if_pos h]
    · have e1 : valV (dk (p :: r)) (Sum.inr x) = valV (dk r) (Sum.inr x) := valV_neg (p := (Sum.inr p.1, V.int p.2)) (fun z => h (by injection z))
      rw [e1, dk_tm r x]
      show _ = V.int (if p.1 = x then p.2 else tm r x)
      rw [if_neg h]
end K06

set_option maxHeartbeats 1000000
namespace K06
open PySem L2
theorem eqI {i j : Int} (h : decide (V.int i = V.int j) = true) : i = j := by
  have := of_decide_eq_true h
  injection this
theorem z2 : 2 ≤ sizeLine := by rw [sizeLine_eq]; decide
/-- a dict of a length's parts -/
theorem dict_parts {H : Hp} {ps : List Pr} {us : List V} (ru : Reps H (partsDv ps) us) (nd : (ps.map (·.1)).Nodup) : ∃ qs : List (Addr × Key × V), us = qs.map (fun p => V.ref p.1) ∧ (∀ p ∈ qs, H p.1 = some (.tup [kV p.2.1, p.2.2])) ∧ (qs.map (·.2.1)).Nodup ∧ qs.map (·.2) = dk ps := by
  have main : ∀ (ps : List Pr) (us : List V), Reps H (partsDv ps) us → ∃ qs : List (Addr × Key × V), us = qs.map (fun p => V.ref p.1) ∧ (∀ p ∈ qs, H p.1 = some (.tup [kV p.2.1, p.2.2])) ∧ qs.map (·.2) = dk ps := by
    intro ps
    induction ps with
    | nil => intro us r; simp only [partsDv, List.map_nil, Reps] at r; subst r; exact ⟨[], rfl, by simp, rfl⟩
    | cons p ps ih =>
      intro us r
      simp only [partsDv, List.map_cons, Reps] at r
      obtain ⟨v, rest, rfl, R, rr⟩ := r
      obtain ⟨qs, rfl, h1, h2⟩ := ih rest rr
      obtain ⟨b, zs, rfl, hb, rz⟩ := Rep.tup_inv R
      obtain ⟨y, z, rfl, Ry, Rz⟩ := Reps.two rz
      simp only [Rep] at Ry Rz
      subst Ry Rz
      refine ⟨(b, Sum.inr p.1, .int p.2) :: qs, rfl, fun x hx => ?_, by rw [List.map_cons, h2]; rfl⟩
      rcases List.mem_cons.mp hx with rfl | hx
      · exact hb
      · exact h1 x hx
  obtain ⟨qs, e1, h1, e2⟩ := main ps us ru
  refine ⟨qs, e1, h1, ?_, e2⟩
  have e3 : qs.map (·.2.1) = (ps.map (·.1)).map Sum.inr := by
    have := congrArg (List.map Prod.fst) e2
    unfold dk at this
    rw [List.map_map, List.map_map] at this
    rw [List.map_map]
    exact this
  rw [e3]
  rw [List.Nodup, List.pairwise_map]
  exact nd.imp fun h e => h (by injection e)
end K06

set_option maxHeartbeats 1000000
namespace K06
open PySem L2
abbrev s_other : Stmt := top 10
theorem z3 : 3 ≤ sizeLine := by rw [sizeLine_eq]; decide
theorem Good.canon {xs : List Str} {ps : List Pr} (G : Good xs ps) : Canon ps := ⟨G.pw, G.ge⟩
theorem Good.five {xs : List Str} {ps : List Pr} (G : Good xs ps) (h5 : xs.length = 5) : ps.length ≤ 5 := by
  have h := List.Nodup.length_le_of_subset (l₂ := xs) (names_nodup G.pw) (fun x hx => by
    obtain ⟨p, hp, rfl⟩ := List.mem_map.mp hx
    exact (G.nm p hp).2)
  rw [List.length_map, h5] at h
  exact h
theorem tm_leB {B : Int} (h0 : 0 ≤ B) {ns : List Pr} (h : ∀ p ∈ ns, p.2 ≤ B) (x : Str) : tm ns x ≤ B := by
  induction ns with
  | nil => exact h0
  | cons p ns ih =>
    show (if p.1 = x then p.2 else tm ns x) ≤ B
    split
    · exact h p List.mem_cons_self
    · exact ih fun q hq => h q (List.mem_cons_of_mem _ hq)
theorem pick3 {a b c i B : Int} (ha : 0 ≤ a ∧ a ≤ B) (hb : 0 ≤ b ∧ b ≤ B) (hc : 0 ≤ c ∧ c ≤ B) (h0 : 0 ≤ i) (h1 : i < 3) : ∃ n : Int, atI ([V.int a, V.int b, V.int c] : List V) i = some (.int n) ∧ 0 ≤ n ∧ n ≤ B := by
  have e : i = 0 ∨ i = 1 ∨ i = 2 := by omega
  rcases e with rfl | rfl | rfl
  · exact ⟨a, atI_nat (j := 0) rfl, ha⟩
  · exact ⟨b, atI_nat (j := 1) rfl, hb⟩
  · exact ⟨c, atI_nat (j := 2) rfl, hc⟩
def spOther (K : PySem.W.Frag) : Sp := fun vs H Q _ => ∃ (v : V) (b e : Addr) (c : Int) (ps : List Pr) (ns : List Int) (xs : List Str), vs = [v, .ref b, .ref e] ∧ Rep H (lenDv c ps) v ∧ 0 ≤ c ∧ c ≤ 64 * 10 ^ 58 ∧ Good xs ps ∧ (∀ p ∈ ps, p.2 ≤ 10 ^ 58) ∧ SqL K H b (ns.map V.int) ∧ ns.length ≤ 63 ∧ H e = some (.lst (xs.map V.str)) ∧ xs.length = 5 ∧ (∀ x ∈ xs, nmB x = true) ∧
  ∀ (H' : Hp) (w : V) (d : Int) (qs : List Pr), Same H H' → Rep H' (lenDv d qs) w → 0 ≤ d → d ≤ 65 * 10 ^ 58 → Good xs qs → (∀ p ∈ qs, p.2 ≤ 2 * 10 ^ 58) → Q w H'
section
variable {P : Program} {w : World} {K : PySem.W.Frag} {mg : Str → Option Value} {base : Heap}
theorem sc_other : FnScope ["_law_a", "_law_cells", "_law_names_here", "_law_mixed_here", "_law_times", "_law_way", "_law_name"] ["_law_a", "_law_cells", "_law_names_here"] (defScope s_other) := ⟨rfl, rfl, rfl, by decide +kernel, rfl, by decide +kernel, by decide +kernel⟩
theorem ok_other {f : Addr} {fd : FuncData} {k : Nat} (F : Fun K "_law_other" "_law_other" s_other f fd) (T : Txt K mg) (D_law_mixed : Def P w K mg base k "_law_mixed" ["_law_cell", "_law_k"] spMixed) (D_law_made : Def P w K mg base k "_law_made" ["_law_count", "_law_times"] spMade)
    (D_law_drawn : Def P w K mg base k "_law_drawn" ["_law_cells", "_law_names_here"] (spDrawn K)) : FnOk P w K mg base CX0 (k + 1) f fd ["_law_a", "_law_cells", "_law_names_here"] (spOther K) := by
  have nd : (["_law_a", "_law_cells", "_law_names_here", "_law_mixed_here", "_law_times", "_law_way", "_law_name"] : List Str).Nodup := sc_other.nd
  refine F.ok sc_other (fun vs H Q E h => ?_) (fun cdv A outer s H vs Q E hr h => ?_)
  · obtain ⟨v, b, e, c, ps, ns, xs, rfl, _⟩ := h
    rfl
  obtain ⟨v, b, e, c, ps, ns, xs, rfl, R, hc, hcB, G, gB, hS, h63, he, h5, hnm, q⟩ := h
  have hu := hu_of hr
  obtain ⟨a, a1, us, rfl, ha, ha1, ru, lu⟩ := len_inv R
  obtain ⟨zs, ez, hz, ndz, ezd⟩ := dict_parts ru (names_nodup G.pw)
  have p5 := G.five h5
  refine ⟨_, (@pss_cons _ _ _ _ _ (@ps_set _ _ (3) _ _ _ _ nd rfl (Or.inl rfl) (@pe_def _ _ _ _ _ _ _ _ _ _ D_law_mixed hr rfl (@pa_cons _ _ _ _ _ (@pe_callB _ _ _ _ _ _ _ _ _ (call_sumL rfl) rfl T.sum (by decide +kernel) (@pa_cons _ _ _ _ _ (@pv _ 1 _ _ (by rfl) (by first | exact Or.inl rfl | exact Or.inr (Or.inl rfl) | exact Or.inr (Or.inr rfl)) (by decide) (by decide)) (@pa_nil _) (by rfl)) (by decide) (by decide) (by rfl) (by rfl)) (@pa_cons _ _ _ _ _ (@pe_int _ _ _ _) (@pa_nil _) (by rfl)) (by rfl)) (by decide) (by rfl) (by rfl)) (by rfl) (by first | exact .inl rfl | exact .inr rfl | assumption)) (@pss_cons _ _ _ _ _ (@ps_set _ _ (4) _ _ _ _ nd rfl (Or.inl rfl) (@pe_callTy _ _ _ _ _ _ _ _ _ (call_dictP rfl) rfl T.dict (by decide +kernel) (@pa_cons _ _ _ _ _ (@pe_ix _ _ _ _ _ _ _ ix_tup (@pv _ 0 _ _ (by rfl) (by first | exact Or.inl rfl | exact Or.inr (Or.inl rfl) | exact Or.inr (Or.inr rfl)) (by decide) (by decide)) (@pe_int _ _ _ _) (fun _ _ => rfl)) (@pa_nil _) (by rfl)) (by decide) (by decide) (by rfl) (by rfl)) (by rfl) (by first | exact .inl rfl | exact .inr rfl | assumption)) (@pss_cons _ _ _ _ _ (@ps_set _ _ (5) _ _ _ _ nd rfl (Or.inl rfl) (@pe_op _ _ _ _ _ _ _ _ op_mod (@pv _ 3 _ _ (by rfl) (by first | exact Or.inl rfl | exact Or.inr (Or.inl rfl) | exact Or.inr (Or.inr rfl)) (by decide) (by decide)) (@pe_int _ _ _ _)) (by rfl) (by first | exact .inl rfl | exact .inr rfl | assumption)) (@pss_cons _ _ _ _ _ (@ps_if _ _ _ _ _ _ _ _ (@pt_cmpR _ _ _ _ _ _ _ _ op_eq (@pv _ 5 _ _ (by rfl) (by first | exact Or.inl rfl | exact Or.inr (Or.inl rfl) | exact Or.inr (Or.inr rfl)) (by decide) (by decide)) (@pe_int _ _ _ _) (nomark _)) (@pss_one _ _ _ (@ps_ret _ _ _ _ (@pe_def _ _ _ _ _ _ _ _ _ _ D_law_drawn hr rfl (@pa_cons _ _ _ _ _ (@pv _ 1 _ _ (by rfl) (by first | exact Or.inl rfl | exact Or.inr (Or.inl rfl) | exact Or.inr (Or.inr rfl)) (by decide) (by decide)) (@pa_cons _ _ _ _ _ (@pv _ 2 _ _ (by rfl) (by first | exact Or.inl rfl | exact Or.inr (Or.inl rfl) | exact Or.inr (Or.inr rfl)) (by decide) (by decide)) (@pa_nil _) (by rfl)) (by rfl)) (by decide) (by rfl) (by rfl)))) (@pss_nil _)) (@pss_cons _ _ _ _ _ (@ps_if _ _ _ _ _ _ _ _ (@pt_cmpR _ _ _ _ _ _ _ _ op_eq (@pv _ 5 _ _ (by rfl) (by first | exact Or.inl rfl | exact Or.inr (Or.inl rfl) | exact Or.inr (Or.inr rfl)) (by decide) (by decide)) (@pe_int _ _ _ _) (nomark _)) (@pss_one _ _ _ (@ps_ret _ _ _ _ (@pe_tup _ _ _ _ _ (@pa_cons _ _ _ _ _ (@pe_ix _ _ _ _ _ _ _ ix_tup (@pv _ 0 _ _ (by rfl) (by first | exact Or.inl rfl | exact Or.inr (Or.inl rfl) | exact Or.inr (Or.inr rfl)) (by decide) (by decide)) (@pe_int _ _ _ _) (fun _ _ => rfl)) (@pa_cons _ _ _ _ _ (@pe_ix _ _ _ _ _ _ _ ix_tup (@pv _ 0 _ _ (by rfl) (by first | exact Or.inl rfl | exact Or.inr (Or.inl rfl) | exact Or.inr (Or.inr rfl)) (by decide) (by decide)) (@pe_int _ _ _ _) (fun _ _ => rfl)) (@pa_nil _) (by rfl)) (by rfl))))) (@pss_nil _)) (@pss_cons _ _ _ _ _ (@ps_if _ _ _ _ _ _ _ _ (@pt_cmpR _ _ _ _ _ _ _ _ op_eq (@pv _ 5 _ _ (by rfl) (by first | exact Or.inl rfl | exact Or.inr (Or.inl rfl) | exact Or.inr (Or.inr rfl)) (by decide) (by decide)) (@pe_int _ _ _ _) (nomark _)) (@pss_one _ _ _ (@ps_ret _ _ _ _ (@pe_def _ _ _ _ _ _ _ _ _ _ D_law_made hr rfl (@pa_cons _ _ _ _ _ (@pe_op _ _ _ _ _ _ _ _ op_add (@pe_ix _ _ _ _ _ _ _ ix_tup (@pv _ 0 _ _ (by rfl) (by first | exact Or.inl rfl | exact Or.inr (Or.inl rfl) | exact Or.inr (Or.inr rfl)) (by decide) (by decide)) (@pe_int _ _ _ _) (fun _ _ => rfl)) (@pe_op _ _ _ _ _ _ _ _ op_mod (@pe_op _ _ _ _ _ _ _ _ op_fdiv (@pv _ 3 _ _ (by rfl) (by first | exact Or.inl rfl | exact Or.inr (Or.inl rfl) | exact Or.inr (Or.inr rfl)) (by decide) (by decide)) (@pe_int _ _ _ _)) (@pe_int _ _ _ _))) (@pa_cons _ _ _ _ _ (@pv _ 4 _ _ (by rfl) (by first | exact Or.inl rfl | exact Or.inr (Or.inl rfl) | exact Or.inr (Or.inr rfl)) (by decide) (by decide)) (@pa_nil _) (by rfl)) (by rfl)) (by decide) (by rfl) (by rfl)))) (@pss_nil _)) (@pss_cons _ _ _ _ _ (@ps_if _ _ _ _ _ _ _ _ (@pt_cmpR _ _ _ _ _ _ _ _ op_eq (@pv _ 5 _ _ (by rfl) (by first | exact Or.inl rfl | exact Or.inr (Or.inl rfl) | exact Or.inr (Or.inr rfl)) (by decide) (by decide)) (@pe_int _ _ _ _) (nomark _)) (@pss_one _ _ _ (@ps_ret _ _ _ _ (@pe_def _ _ _ _ _ _ _ _ _ _ D_law_made hr rfl (@pa_cons _ _ _ _ _ (@pe_op _ _ _ _ _ _ _ _ op_fdiv (@pe_ix _ _ _ _ _ _ _ ix_tup (@pv _ 0 _ _ (by rfl) (by first | exact Or.inl rfl | exact Or.inr (Or.inl rfl) | exact Or.inr (Or.inr rfl)) (by decide) (by decide)) (@pe_int _ _ _ _) (fun _ _ => rfl)) (@pe_op _ _ _ _ _ _ _ _ op_add (@pe_int _ _ _ _) (@pe_op _ _ _ _ _ _ _ _ op_mod (@pe_op _ _ _ _ _ _ _ _ op_fdiv (@pv _ 3 _ _ (by rfl) (by first | exact Or.inl rfl | exact Or.inr (Or.inl rfl) | exact Or.inr (Or.inr rfl)) (by decide) (by decide)) (@pe_int _ _ _ _)) (@pe_int _ _ _ _)))) (@pa_cons _ _ _ _ _ (@pv _ 4 _ _ (by rfl) (by first | exact Or.inl rfl | exact Or.inr (Or.inl rfl) | exact Or.inr (Or.inr rfl)) (by decide) (by decide)) (@pa_nil _) (by rfl)) (by rfl)) (by decide) (by rfl) (by rfl)))) (@pss_nil _)) (@pss_cons _ _ _ _ _ (@ps_set _ _ (6) _ _ _ _ nd rfl (Or.inl rfl) (@pe_ix _ _ _ _ _ _ _ ix_list (@pv _ 2 _ _ (by rfl) (by first | exact Or.inl rfl | exact Or.inr (Or.inl rfl) | exact Or.inr (Or.inr rfl)) (by decide) (by decide)) (@pe_op _ _ _ _ _ _ _ _ op_mod (@pe_op _ _ _ _ _ _ _ _ op_fdiv (@pv _ 3 _ _ (by rfl) (by first | exact Or.inl rfl | exact Or.inr (Or.inl rfl) | exact Or.inr (Or.inr rfl)) (by decide) (by decide)) (@pe_int _ _ _ _)) (@pe_int _ _ _ _)) (fun _ _ => rfl)) (by rfl) (by first | exact .inl rfl | exact .inr rfl | assumption)) (@pss_cons _ _ _ _ _ (@ps_if _ _ _ _ _ _ _ _ (@pt_cmpR _ _ _ _ _ _ _ _ op_eq (@pv _ 5 _ _ (by rfl) (by first | exact Or.inl rfl | exact Or.inr (Or.inl rfl) | exact Or.inr (Or.inr rfl)) (by decide) (by decide)) (@pe_int _ _ _ _) (nomark _)) (@pss_one _ _ _ (@ps_dput _ _ _ _ _ _ _ _ _ hu (@pv _ 4 _ _ (by rfl) (by first | exact Or.inl rfl | exact Or.inr (Or.inl rfl) | exact Or.inr (Or.inr rfl)) (by decide) (by decide)) (@pv _ 6 _ _ (by rfl) (by first | exact Or.inl rfl | exact Or.inr (Or.inl rfl) | exact Or.inr (Or.inr rfl)) (by decide) (by decide)) (@pe_op _ _ _ _ _ _ _ _ op_add (@pe_dget2 _ _ _ _ _ _ _ _ _ hu (@pv _ 4 _ _ (by rfl) (by first | exact Or.inl rfl | exact Or.inr (Or.inl rfl) | exact Or.inr (Or.inr rfl)) (by decide) (by decide)) (@pv _ 6 _ _ (by rfl) (by first | exact Or.inl rfl | exact Or.inr (Or.inl rfl) | exact Or.inr (Or.inr rfl)) (by decide) (by decide)) (@pe_int _ _ _ _) ⟨rfl, rfl, rfl, rfl⟩) (@pe_op _ _ _ _ _ _ _ _ op_mod (@pe_op _ _ _ _ _ _ _ _ op_fdiv (@pv _ 3 _ _ (by rfl) (by first | exact Or.inl rfl | exact Or.inr (Or.inl rfl) | exact Or.inr (Or.inr rfl)) (by decide) (by decide)) (@pe_int _ _ _ _)) (@pe_int _ _ _ _))) rfl)) (@pss_nil _)) (@pss_cons _ _ _ _ _ (@ps_if _ _ _ _ _ _ _ _ (@pt_cmpR _ _ _ _ _ _ _ _ op_eq (@pv _ 5 _ _ (by rfl) (by first | exact Or.inl rfl | exact Or.inr (Or.inl rfl) | exact Or.inr (Or.inr rfl)) (by decide) (by decide)) (@pe_int _ _ _ _) (nomark _)) (@pss_one _ _ _ (@ps_dput _ _ _ _ _ _ _ _ _ hu (@pv _ 4 _ _ (by rfl) (by first | exact Or.inl rfl | exact Or.inr (Or.inl rfl) | exact Or.inr (Or.inr rfl)) (by decide) (by decide)) (@pv _ 6 _ _ (by rfl) (by first | exact Or.inl rfl | exact Or.inr (Or.inl rfl) | exact Or.inr (Or.inr rfl)) (by decide) (by decide)) (@pe_callB _ _ _ _ _ _ _ _ _ (call_max2 rfl) rfl T.max (by decide +kernel) (@pa_cons _ _ _ _ _ (@pe_int _ _ _ _) (@pa_cons _ _ _ _ _ (@pe_op _ _ _ _ _ _ _ _ op_sub (@pe_op _ _ _ _ _ _ _ _ op_sub (@pe_dget2 _ _ _ _ _ _ _ _ _ hu (@pv _ 4 _ _ (by rfl) (by first | exact Or.inl rfl | exact Or.inr (Or.inl rfl) | exact Or.inr (Or.inr rfl)) (by decide) (by decide)) (@pv _ 6 _ _ (by rfl) (by first | exact Or.inl rfl | exact Or.inr (Or.inl rfl) | exact Or.inr (Or.inr rfl)) (by decide) (by decide)) (@pe_int _ _ _ _) ⟨rfl, rfl, rfl, rfl⟩) (@pe_int _ _ _ _)) (@pe_op _ _ _ _ _ _ _ _ op_mod (@pe_op _ _ _ _ _ _ _ _ op_fdiv (@pv _ 3 _ _ (by rfl) (by first | exact Or.inl rfl | exact Or.inr (Or.inl rfl) | exact Or.inr (Or.inr rfl)) (by decide) (by decide)) (@pe_int _ _ _ _)) (@pe_int _ _ _ _))) (@pa_nil _) (by rfl)) (by rfl)) (by decide) (by decide) (by rfl) (by rfl)) rfl)) (@pss_nil _)) (@pss_one _ _ _ (@ps_ret _ _ _ _ (@pe_def _ _ _ _ _ _ _ _ _ _ D_law_made hr rfl (@pa_cons _ _ _ _ _ (@pe_ix _ _ _ _ _ _ _ ix_list (@pe_lst _ _ _ _ (@pa_cons _ _ _ _ _ (@pe_ix _ _ _ _ _ _ _ ix_tup (@pv _ 0 _ _ (by rfl) (by first | exact Or.inl rfl | exact Or.inr (Or.inl rfl) | exact Or.inr (Or.inr rfl)) (by decide) (by decide)) (@pe_int _ _ _ _) (fun _ _ => rfl)) (@pa_cons _ _ _ _ _ (@pe_op _ _ _ _ _ _ _ _ op_add (@pe_ix _ _ _ _ _ _ _ ix_tup (@pv _ 0 _ _ (by rfl) (by first | exact Or.inl rfl | exact Or.inr (Or.inl rfl) | exact Or.inr (Or.inr rfl)) (by decide) (by decide)) (@pe_int _ _ _ _) (fun _ _ => rfl)) (@pe_op _ _ _ _ _ _ _ _ op_mod (@pe_op _ _ _ _ _ _ _ _ op_fdiv (@pv _ 3 _ _ (by rfl) (by first | exact Or.inl rfl | exact Or.inr (Or.inl rfl) | exact Or.inr (Or.inr rfl)) (by decide) (by decide)) (@pe_int _ _ _ _)) (@pe_int _ _ _ _))) (@pa_cons _ _ _ _ _ (@pe_op _ _ _ _ _ _ _ _ op_fdiv (@pe_ix _ _ _ _ _ _ _ ix_tup (@pv _ 0 _ _ (by rfl) (by first | exact Or.inl rfl | exact Or.inr (Or.inl rfl) | exact Or.inr (Or.inr rfl)) (by decide) (by decide)) (@pe_int _ _ _ _) (fun _ _ => rfl)) (@pe_int _ _ _ _)) (@pa_nil _) (by rfl)) (by rfl)) (by rfl))) (@pe_op _ _ _ _ _ _ _ _ op_mod (@pe_op _ _ _ _ _ _ _ _ op_fdiv (@pv _ 3 _ _ (by rfl) (by first | exact Or.inl rfl | exact Or.inr (Or.inl rfl) | exact Or.inr (Or.inr rfl)) (by decide) (by decide)) (@pe_int _ _ _ _)) (@pe_int _ _ _ _)) (fun _ _ => rfl)) (@pa_cons _ _ _ _ _ (@pv _ 4 _ _ (by rfl) (by first | exact Or.inl rfl | exact Or.inr (Or.inl rfl) | exact Or.inr (Or.inr rfl)) (by decide) (by decide)) (@pa_nil _) (by rfl)) (by rfl)) (by decide) (by rfl) (by rfl)))))))))))))), ?_⟩
  refine ⟨_, rfl, b, ns, rfl, hS, _, 70, rfl, fun m hm => ?_⟩
  refine ⟨_, rfl, a, _, 1, .ref a1, rfl, rfl, SqT.of ha, atI_nat (j := 1) rfl, a1, zs, rfl, by rw [ha1, ez], hz, ndz, fun t ht => ?_⟩
  rw [ezd]
  have s0 : Same H (upd H t (.dK (dk ps))) := same_new ht _
  have t0 : upd H t (.dK (dk ps)) t = some (.dK (dk ps)) := upd_same
  generalize upd H t (.dK (dk ps)) = H0 at s0 t0 ⊢
  have inx : ∀ p ∈ ps, p.1 ∈ xs ∧ 0 ≤ p.2 ∧ p.2 ≤ 2 * 10 ^ 58 := fun p hp => ⟨(G.nm p hp).2, by have := G.ge p hp; omega, by have := gB p hp; omega⟩
  -- what made tells
  have mk : ∀ (H1 : Hp) (n : Int), 0 ≤ n → n ≤ 65 * 10 ^ 58 → ∀ (kvs : List Pr), Same H H1 → H1 t = some (.dK (dk kvs)) → (kvs.map (·.1)).Nodup → kvs.length ≤ 6 → (∀ p ∈ kvs, p.1 ∈ xs ∧ 0 ≤ p.2 ∧ p.2 ≤ 2 * 10 ^ 58) → spMade [.int n, .ref t] H1 Q E0 := fun H1 n n0 nB kvs s1 d1 ndk hl hk =>
    ⟨n, t, kvs, rfl, d1, ndk, by omega, fun H2 w qs s2 Rw pq pw => q H2 w n qs (fun g o hg => s2 g o (ne_of_none hg ht) (s1 _ _ hg)) Rw n0 nB
      ⟨pw, fun p hp => ⟨hnm _ (hk p (List.mem_filter.mp (pq.mem_iff.mp hp)).1).1, (hk p (List.mem_filter.mp (pq.mem_iff.mp hp)).1).1⟩, fun p hp => of_decide_eq_true (List.mem_filter.mp (pq.mem_iff.mp hp)).2, by
        rw [pq.length_eq]
        exact Nat.le_trans (List.length_filter_le _ _) (by omega)⟩ (fun p hp => (hk p (List.mem_filter.mp (pq.mem_iff.mp hp)).1).2.2)⟩
  have ndp := names_nodup G.pw
  refine ⟨_, rfl, _, _, rfl, rfl, (by show (0 : Int) < 6; decide), ?_⟩
  refine ⟨_, rfl, rfl, _, rfl, ite2 (fun w0 => ?_) (fun w0 => ?_)⟩
  · exact ⟨_, rfl, _, rfl, b, e, ns, xs, rfl, s0.seq hS, h63, s0 _ _ he, h5, hnm, fun H1 w d qs s1 Rw hd Gq dB bq => q H1 w d qs (s0.trans s1) Rw hd (by omega) Gq (fun p hp => by have := bq p hp; omega)⟩
  refine ⟨_, rfl, rfl, _, rfl, ite2 (fun w1 => ?_) (fun w1 => ?_)⟩
  · refine ⟨_, rfl, a, _, 0, .int c, rfl, rfl, SqT.of (s0 _ _ ha), atI_nat (j := 0) rfl, _, rfl, a, _, 1, .ref a1, rfl, rfl, SqT.of (s0 _ _ ha), atI_nat (j := 1) rfl, z2, fun p hp => ?_⟩
    have s1 := s0.trans (same_new hp (.tup [.int c, .ref a1]))
    exact q _ _ c ps s1 (len_rep upd_same (s1 _ _ ha1) (ru.mono s1)) hc (by omega) G (fun p hp => by have := gB p hp; omega)
  refine ⟨_, rfl, rfl, _, rfl, ite2 (fun w2 => ?_) (fun w2 => ?_)⟩
  · refine ⟨_, rfl, a, _, 0, .int c, rfl, rfl, SqT.of (s0 _ _ ha), atI_nat (j := 0) rfl, _, rfl, _, _, rfl, rfl, ⟨by decide, by decide⟩, _, _, rfl, rfl, (by show (0 : Int) < 3; decide), _, _, rfl, rfl, _, rfl, ?_⟩
    exact mk _ _ (by have := (mod_lt (a := m / 6) 3 (by decide)).1; omega) (by have := (mod_lt (a := m / 6) 3 (by decide)).2; omega) ps s0 t0 ndp (by omega) inx
  refine ⟨_, rfl, rfl, _, rfl, ite2 (fun w3 => ?_) (fun w3 => ?_)⟩
  · obtain ⟨b0, b1⟩ := mod_lt (a := m / 6) 3 (by decide)
    refine ⟨_, rfl, a, _, 0, .int c, rfl, rfl, SqT.of (s0 _ _ ha), atI_nat (j := 0) rfl, _, rfl, _, _, rfl, rfl, ⟨by decide, by decide⟩, _, _, rfl, rfl, (by show (0 : Int) < 3; decide), _, _, rfl, rfl, _, _, rfl, rfl, ⟨by omega, by omega⟩, _, rfl, ?_⟩
    exact mk _ _ (Int.ediv_nonneg hc (by omega)) (Int.le_trans (Int.ediv_le_self _ hc) (by omega)) ps s0 t0 ndp (by omega) inx
  obtain ⟨b0, b1⟩ := mod_lt (a := m / 6) 5 (by decide)
  obtain ⟨nm, hnm', hat⟩ := pick5 h5 b0 b1
  refine ⟨_, rfl, _, rfl, _, _, rfl, rfl, ⟨by decide, by decide⟩, _, _, rfl, rfl, (by show (0 : Int) < 5; decide), e, _, _, .str nm, rfl, rfl, SqL.of (s0 _ _ he), hat, ?_⟩
  have lp : (dk ps).length < sizeLine := by rw [show (dk ps).length = ps.length from List.length_map _, sizeLine_eq]; omega
  have tm0 := tm_nonneg (fun r hr' => (inx r hr').2.1) nm
  have tmB := tm_leB (B := 10 ^ 58) (by omega) gB nm
  obtain ⟨c0, c1⟩ := mod_lt (a := m / 30) 3 (by decide)
  have sput : ∀ n : Int, Same H (upd H0 t (.dK (putK (dk ps) (Sum.inr nm) (.int n)))) := fun n g o hg => by
    rw [upd_ne (ne_of_none hg ht)]; exact s0 _ _ hg
  have dput : ∀ n : Int, upd H0 t (.dK (putK (dk ps) (Sum.inr nm) (.int n))) t = some (.dK (dk (putS ps nm n))) := fun n => by rw [upd_same, dk_put]
  have lput : ∀ n : Int, (putS ps nm n).length ≤ 6 := fun n => Nat.le_trans (putS_len _ _ _) (by omega)
  have aput : ∀ n : Int, 0 ≤ n → n ≤ 2 * 10 ^ 58 → ∀ p ∈ putS ps nm n, p.1 ∈ xs ∧ 0 ≤ p.2 ∧ p.2 ≤ 2 * 10 ^ 58 := fun n n0 nB => putS_all (R := fun p => p.1 ∈ xs ∧ 0 ≤ p.2 ∧ p.2 ≤ 2 * 10 ^ 58) inx ⟨hnm', n0, nB⟩
  refine ⟨_, rfl, rfl, _, rfl, ite2 (fun w4 => ?_) (fun w4 => ?_)⟩
  · refine ⟨_, rfl, t, rfl, .inl ⟨_, .inl t0⟩, _, rfl, _, DGet.k (k := Sum.inr nm) t0, _, rfl, _, _, rfl, rfl, ⟨by decide, by decide⟩, _, _, rfl, rfl, (by show (0 : Int) < 3; decide), tm ps nm, _, dk_tm _ _, rfl, _, rfl, _, rfl, t, _, rfl, DPut.k (k := Sum.inr nm) t0 lp, ?_⟩
    have n0 : 0 ≤ tm ps nm + m / 30 % 3 := by omega
    have sf := sput (tm ps nm + m / 30 % 3)
    have dk1 := dput (tm ps nm + m / 30 % 3)
    generalize upd H0 t (.dK (putK (dk ps) (Sum.inr nm) (.int (tm ps nm + m / 30 % 3)))) = Hf at sf dk1 ⊢
    have ndk := putS_keys (x := nm) (n := tm ps nm + m / 30 % 3) ndp
    have lk := lput (tm ps nm + m / 30 % 3)
    have hk := aput _ n0 (by omega)
    generalize putS ps nm (tm ps nm + m / 30 % 3) = kv at dk1 ndk lk hk
    have w4' := eqI w4
    refine ⟨_, rfl, rfl, _, rfl, ite2 (fun w5 => absurd (eqI w5) (by omega)) (fun w5 => ?_)⟩
    refine ⟨_, rfl, a, _, 0, .int c, rfl, rfl, SqT.of (sf _ _ ha), atI_nat (j := 0) rfl, _, rfl, a, _, 0, .int c, rfl, rfl, SqT.of (sf _ _ ha), atI_nat (j := 0) rfl, _, rfl, _, _, rfl, rfl, ⟨by decide, by decide⟩, _, _, rfl, rfl, (by show (0 : Int) < 30; decide), _, _, rfl, rfl, _, rfl, a, _, 0, .int c, rfl, rfl, SqT.of (sf _ _ ha), atI_nat (j := 0) rfl, _, _, rfl, rfl, ⟨by decide, by decide⟩, z3, fun l hl => ?_⟩
    obtain ⟨n, hn, n0, nB⟩ := pick3 (a := c) (b := c + m / 90 % 30) (c := c / 2) (i := m / 2700 % 3) (B := 65 * 10 ^ 58) ⟨hc, by omega⟩ (by have := mod_lt (a := m / 90) 30 (by decide); omega) ⟨Int.ediv_nonneg hc (by decide), Int.le_trans (Int.ediv_le_self _ hc) (by omega)⟩ (mod_lt 3 (by decide)).1 (mod_lt 3 (by decide)).2
    refine ⟨_, rfl, _, _, rfl, rfl, ⟨by decide, by decide⟩, _, _, rfl, rfl, (by show (0 : Int) < 3; decide), l, _, _, .int n, rfl, rfl, SqL.of upd_same, hn, _, rfl, ?_⟩
    exact mk _ _ n0 nB kv (sf.trans (same_new hl _)) (same_new hl _ _ _ dk1) ndk lk hk
  refine ⟨_, rfl, rfl, _, rfl, ite2 (fun w5 => ?_) (fun w5 => ?_)⟩
  · refine ⟨_, rfl, t, rfl, .inl ⟨_, .inl t0⟩, _, rfl, _, DGet.k (k := Sum.inr nm) t0, tm ps nm, _, dk_tm _ _, rfl, _, rfl, _, _, rfl, rfl, ⟨by decide, by decide⟩, _, _, rfl, rfl, (by show (0 : Int) < 3; decide), _, _, rfl, rfl, _, _, rfl, _, rfl, _, rfl, t, _, rfl, DPut.k (k := Sum.inr nm) t0 lp, ?_⟩
    have n0 : 0 ≤ (if tm ps nm - 1 - m / 30 % 3 > 0 then tm ps nm - 1 - m / 30 % 3 else 0) := by split <;> omega
    have sf := sput (if tm ps nm - 1 - m / 30 % 3 > 0 then tm ps nm - 1 - m / 30 % 3 else 0)
    have dk1 := dput (if tm ps nm - 1 - m / 30 % 3 > 0 then tm ps nm - 1 - m / 30 % 3 else 0)
    generalize upd H0 t (.dK (putK (dk ps) (Sum.inr nm) (.int (if tm ps nm - 1 - m / 30 % 3 > 0 then tm ps nm - 1 - m / 30 % 3 else 0)))) = Hf at sf dk1 ⊢
    have ndk := putS_keys (x := nm) (n := if tm ps nm - 1 - m / 30 % 3 > 0 then tm ps nm - 1 - m / 30 % 3 else 0) ndp
    have lk := lput (if tm ps nm - 1 - m / 30 % 3 > 0 then tm ps nm - 1 - m / 30 % 3 else 0)
    have hk := aput _ n0 (by split <;> omega)
    generalize putS ps nm (if tm ps nm - 1 - m / 30 % 3 > 0 then tm ps nm - 1 - m / 30 % 3 else 0) = kv at dk1 ndk lk hk
    refine ⟨_, rfl, a, _, 0, .int c, rfl, rfl, SqT.of (sf _ _ ha), atI_nat (j := 0) rfl, _, rfl, a, _, 0, .int c, rfl, rfl, SqT.of (sf _ _ ha), atI_nat (j := 0) rfl, _, rfl, _, _, rfl, rfl, ⟨by decide, by decide⟩, _, _, rfl, rfl, (by show (0 : Int) < 30; decide), _, _, rfl, rfl, _, rfl, a, _, 0, .int c, rfl, rfl, SqT.of (sf _ _ ha), atI_nat (j := 0) rfl, _, _, rfl, rfl, ⟨by decide, by decide⟩, z3, fun l hl => ?_⟩
    obtain ⟨n, hn, n0, nB⟩ := pick3 (a := c) (b := c + m / 90 % 30) (c := c / 2) (i := m / 2700 % 3) (B := 65 * 10 ^ 58) ⟨hc, by omega⟩ (by have := mod_lt (a := m / 90) 30 (by decide); omega) ⟨Int.ediv_nonneg hc (by decide), Int.le_trans (Int.ediv_le_self _ hc) (by omega)⟩ (mod_lt 3 (by decide)).1 (mod_lt 3 (by decide)).2
    refine ⟨_, rfl, _, _, rfl, rfl, ⟨by decide, by decide⟩, _, _, rfl, rfl, (by show (0 : Int) < 3; decide), l, _, _, .int n, rfl, rfl, SqL.of upd_same, hn, _, rfl, ?_⟩
    exact mk _ _ n0 nB kv (sf.trans (same_new hl _)) (same_new hl _ _ _ dk1) ndk lk hk
  · have sf := s0
    have dk1 := t0
    have ndk := ndp
    have lk : ps.length ≤ 6 := by omega
    have hk := inx
    refine ⟨_, rfl, a, _, 0, .int c, rfl, rfl, SqT.of (sf _ _ ha), atI_nat (j := 0) rfl, _, rfl, a, _, 0, .int c, rfl, rfl, SqT.of (sf _ _ ha), atI_nat (j := 0) rfl, _, rfl, _, _, rfl, rfl, ⟨by decide, by decide⟩, _, _, rfl, rfl, (by show (0 : Int) < 30; decide), _, _, rfl, rfl, _, rfl, a, _, 0, .int c, rfl, rfl, SqT.of (sf _ _ ha), atI_nat (j := 0) rfl, _, _, rfl, rfl, ⟨by decide, by decide⟩, z3, fun l hl => ?_⟩
    obtain ⟨n, hn, n0, nB⟩ := pick3 (a := c) (b := c + m / 90 % 30) (c := c / 2) (i := m / 2700 % 3) (B := 65 * 10 ^ 58) ⟨hc, by omega⟩ (by have := mod_lt (a := m / 90) 30 (by decide); omega) ⟨Int.ediv_nonneg hc (by decide), Int.le_trans (Int.ediv_le_self _ hc) (by omega)⟩ (mod_lt 3 (by decide)).1 (mod_lt 3 (by decide)).2
    refine ⟨_, rfl, _, _, rfl, rfl, ⟨by decide, by decide⟩, _, _, rfl, rfl, (by show (0 : Int) < 3; decide), l, _, _, .int n, rfl, rfl, SqL.of upd_same, hn, _, rfl, ?_⟩
    exact mk _ _ n0 nB ps (sf.trans (same_new hl _)) (same_new hl _ _ _ dk1) ndk lk hk
end
end K06

set_option maxHeartbeats 1000000
namespace K06
open PySem L2
abbrev s_twos : Stmt := top 11
theorem cut_ints (ns : List Int) (lo hi : Option Int) (h : ns.length ≤ 63) : ∃ ms : List Int, cutV (ns.map V.int) lo hi = ms.map V.int ∧ ms.length ≤ 63 := by
  unfold cutV
  rw [← List.map_drop, ← List.map_take]
  exact ⟨_, rfl, by rw [List.length_take, List.length_drop]; omega⟩
/-- two lengths -/
structure Two (K : PySem.W.Frag) (xs : List Str) (H : Hp) (v : V) : Prop where
  ex : ∃ (p : Addr) (x y : V) (c d : Int) (ps qs : List Pr), v = .ref p ∧ H p = some (.tup [x, y]) ∧ Rep H (lenDv c ps) x ∧ Rep H (lenDv d qs) y ∧ 0 ≤ c ∧ c ≤ 65 * 10 ^ 58 ∧ 0 ≤ d ∧ d ≤ 65 * 10 ^ 58 ∧ Good xs ps ∧ Good xs qs ∧ (∀ p ∈ ps, p.2 ≤ 2 * 10 ^ 58) ∧ (∀ p ∈ qs, p.2 ≤ 2 * 10 ^ 58)
theorem len_tups {H H' : Hp} (h : ∀ b zs, H b = some (.tup zs) → H' b = some (.tup zs)) {c : Int} {ps : List Pr} {v : V} (R : Rep H (lenDv c ps) v) : Rep H' (lenDv c ps) v := by
  obtain ⟨a, b, us, rfl, ha, hb, ru, lu⟩ := len_inv R
  refine len_rep (h _ _ ha) (h _ _ hb) ?_
  have main : ∀ (ps : List Pr) (us : List V), Reps H (partsDv ps) us → Reps H' (partsDv ps) us := by
    intro ps
    induction ps with
    | nil => intro us r; simpa only [partsDv, List.map_nil, Reps] using r
    | cons p ps ih =>
      intro us r
      simp only [partsDv, List.map_cons, Reps, Rep] at r ⊢
      obtain ⟨v, rest, rfl, ⟨g, zs, rfl, hg, z1, z2, rfl, rfl, w1, w2, rfl, rfl, rfl⟩, rr⟩ := r
      exact ⟨_, _, rfl, ⟨g, _, rfl, h _ _ hg, _, _, rfl, rfl, _, _, rfl, rfl, rfl⟩, ih rest rr⟩
  exact main ps us ru
theorem Two.tups {K : PySem.W.Frag} {xs : List Str} {H H' : Hp} (h : ∀ b zs, H b = some (.tup zs) → H' b = some (.tup zs)) {v : V} (t : Two K xs H v) : Two K xs H' v := by
  obtain ⟨p, x, y, c, d, ps, qs, rfl, hp, R1, R2, r⟩ := t.ex
  exact ⟨p, x, y, c, d, ps, qs, rfl, h _ _ hp, len_tups h R1, len_tups h R2, r⟩
def spTwos (K : PySem.W.Frag) : Sp := fun vs H Q _ => ∃ (a : Addr) (ns : List Int), vs = [.ref a] ∧ SqL K H a (ns.map V.int) ∧ ns.length ≤ 63 ∧
  ∀ (H' : Hp) (l : Addr) (ys : List V) (xs : List Str), Same H H' → H' l = some (.lst ys) → xs.length = 5 → (∀ x ∈ xs, nmB x = true) → (∀ y ∈ ys, Two K xs H' y) → ys.length ≤ 1000000 → Q (.ref l) H'
theorem rng_small {i : Nat} {j : Int} (h : i < (Builtin.Range.rangeSize 1 j 8).toNat) (hj : j < 1000000) : i < 1000000 := by
  unfold Builtin.Range.rangeSize at h
  rw [if_pos (by decide)] at h
  split at h
  · omega
  · simp at h
section
variable {P : Program} {w : World} {K : PySem.W.Frag} {mg : Str → Option Value} {base : Heap}
theorem sc_twos : FnScope ["_law_script", "_law_names_here", "_law_found", "_law_at", "_law_a"] ["_law_script"] (defScope s_twos) := ⟨rfl, rfl, rfl, by decide +kernel, rfl, by decide +kernel, by decide +kernel⟩
theorem ok_twos {f : Addr} {fd : FuncData} {k : Nat} (F : Fun K "_law_twos" "_law_twos" s_twos f fd) (T : Txt K mg) (D_law_cell_at : Def P w K mg base k "_law_cell_at" ["_law_script", "_law_k"] (spCell K)) (D_law_names : Def P w K mg base k "_law_names" ["_law_cell"] spNms)
    (D_law_drawn : Def P w K mg base k "_law_drawn" ["_law_cells", "_law_names_here"] (spDrawn K)) (D_law_other : Def P w K mg base k "_law_other" ["_law_a", "_law_cells", "_law_names_here"] (spOther K)) : FnOk P w K mg base CX0 (k + 1) f fd ["_law_script"] (spTwos K) := by
  have nd : (["_law_script", "_law_names_here", "_law_found", "_law_at", "_law_a"] : List Str).Nodup := sc_twos.nd
  refine F.ok sc_twos (fun vs H Q E h => ?_) (fun cdv A outer s H vs Q E hr h => ?_)
  · obtain ⟨a, ns, rfl, _⟩ := h
    rfl
  obtain ⟨a, ns, rfl, hS, h63, q⟩ := h
  refine ⟨_, (@pss_cons _ _ _ _ _ (@ps_set _ _ (1) _ _ _ _ nd rfl (Or.inl rfl) (@pe_def _ _ _ _ _ _ _ _ _ _ D_law_names hr rfl (@pa_cons _ _ _ _ _ (@pe_def _ _ _ _ _ _ _ _ _ _ D_law_cell_at hr rfl (@pa_cons _ _ _ _ _ (@pv _ 0 _ _ (by rfl) (by first | exact Or.inl rfl | exact Or.inr (Or.inl rfl) | exact Or.inr (Or.inr rfl)) (by decide) (by decide)) (@pa_cons _ _ _ _ _ (@pe_int _ _ _ _) (@pa_nil _) (by rfl)) (by rfl)) (by decide) (by rfl) (by rfl)) (@pa_nil _) (by rfl)) (by decide) (by rfl) (by rfl)) (by rfl) (by first | exact .inl rfl | exact .inr rfl | assumption)) (@pss_cons _ _ _ _ _ (@ps_set _ _ (2) _ _ _ _ nd rfl (Or.inl rfl) (@pe_lst _ _ _ _ (@pa_nil _)) (by rfl) (by first | exact .inl rfl | exact .inr rfl | assumption)) (@pss_cons _ _ _ _ _ (@ps_for _ _ _ _ _ _ _ _ PassesOwn.never rfl (@pi_range3 _ _ _ _ _ _ _ _ rfl T.range (@pa_cons _ _ _ _ _ (@pe_int _ _ _ _) (@pa_cons _ _ _ _ _ (@pe_callB _ _ _ _ _ _ _ _ _ (call_max2 rfl) rfl T.max (by decide +kernel) (@pa_cons _ _ _ _ _ (@pe_int _ _ _ _) (@pa_cons _ _ _ _ _ (@pe_callB _ _ _ _ _ _ _ _ _ call_len_seq rfl T.len (by decide +kernel) (@pa_cons _ _ _ _ _ (@pv _ 0 _ _ (by rfl) (by first | exact Or.inl rfl | exact Or.inr (Or.inl rfl) | exact Or.inr (Or.inr rfl)) (by decide) (by decide)) (@pa_nil _) (by rfl)) (by decide) (by decide) (by rfl) (by rfl)) (@pa_nil _) (by rfl)) (by rfl)) (by decide) (by decide) (by rfl) (by rfl)) (@pa_cons _ _ _ _ _ (@pe_int _ _ _ _) (@pa_nil _) (by rfl)) (by rfl)) (by rfl)) (by rfl) (by rfl)) (@pg_name _ _ (3) _ nd rfl (Or.inl rfl) (by first | exact .inl rfl | exact .inr rfl | assumption)) (@pss_cons _ _ _ _ _ (@ps_set _ _ (4) _ _ _ _ nd rfl (Or.inl rfl) (@pe_def _ _ _ _ _ _ _ _ _ _ D_law_drawn hr rfl (@pa_cons _ _ _ _ _ (@pe_slice _ _ _ _ _ _ _ _ _ _ sl_list (@pv _ 0 _ _ (by rfl) (by first | exact Or.inl rfl | exact Or.inr (Or.inl rfl) | exact Or.inr (Or.inr rfl)) (by decide) (by decide)) (@po_some _ _ _ (@pv _ 3 _ _ (by rfl) (by first | exact Or.inl rfl | exact Or.inr (Or.inl rfl) | exact Or.inr (Or.inr rfl)) (by decide) (by decide))) (@po_some _ _ _ (@pe_op _ _ _ _ _ _ _ _ op_add (@pv _ 3 _ _ (by rfl) (by first | exact Or.inl rfl | exact Or.inr (Or.inl rfl) | exact Or.inr (Or.inr rfl)) (by decide) (by decide)) (@pe_int _ _ _ _)))) (@pa_cons _ _ _ _ _ (@pv _ 1 _ _ (by rfl) (by first | exact Or.inl rfl | exact Or.inr (Or.inl rfl) | exact Or.inr (Or.inr rfl)) (by decide) (by decide)) (@pa_nil _) (by rfl)) (by rfl)) (by decide) (by rfl) (by rfl)) (by rfl) (by first | exact .inl rfl | exact .inr rfl | assumption)) (@pss_one _ _ _ (@ps_expr _ _ _ _ (@pe_bm _ _ _ _ _ _ _ _ _ _ _ _ PySem.F.plainAttrs_list PySem.F.slot_list_append PySem.F.type_list_append mt_append (@pv _ 2 _ _ (by rfl) (by first | exact Or.inl rfl | exact Or.inr (Or.inl rfl) | exact Or.inr (Or.inr rfl)) (by decide) (by decide)) (@pa_cons _ _ _ _ _ (@pe_tup _ _ _ _ _ (@pa_cons _ _ _ _ _ (@pv _ 4 _ _ (by rfl) (by first | exact Or.inl rfl | exact Or.inr (Or.inl rfl) | exact Or.inr (Or.inr rfl)) (by decide) (by decide)) (@pa_cons _ _ _ _ _ (@pe_def _ _ _ _ _ _ _ _ _ _ D_law_other hr rfl (@pa_cons _ _ _ _ _ (@pv _ 4 _ _ (by rfl) (by first | exact Or.inl rfl | exact Or.inr (Or.inl rfl) | exact Or.inr (Or.inr rfl)) (by decide) (by decide)) (@pa_cons _ _ _ _ _ (@pe_slice _ _ _ _ _ _ _ _ _ _ sl_list (@pv _ 0 _ _ (by rfl) (by first | exact Or.inl rfl | exact Or.inr (Or.inl rfl) | exact Or.inr (Or.inr rfl)) (by decide) (by decide)) (@po_some _ _ _ (@pe_op _ _ _ _ _ _ _ _ op_add (@pv _ 3 _ _ (by rfl) (by first | exact Or.inl rfl | exact Or.inr (Or.inl rfl) | exact Or.inr (Or.inr rfl)) (by decide) (by decide)) (@pe_int _ _ _ _))) (@po_some _ _ _ (@pe_op _ _ _ _ _ _ _ _ op_add (@pv _ 3 _ _ (by rfl) (by first | exact Or.inl rfl | exact Or.inr (Or.inl rfl) | exact Or.inr (Or.inr rfl)) (by decide) (by decide)) (@pe_int _ _ _ _)))) (@pa_cons _ _ _ _ _ (@pv _ 1 _ _ (by rfl) (by first | exact Or.inl rfl | exact Or.inr (Or.inl rfl) | exact Or.inr (Or.inr rfl)) (by decide) (by decide)) (@pa_nil _) (by rfl)) (by rfl)) (by rfl)) (by decide) (by rfl) (by rfl)) (@pa_nil _) (by rfl)) (by rfl))) (@pa_nil _) (by rfl)) (by rfl) (by rfl) (by rfl) (by rfl) (by rfl)) (by rfl)))) (by intro _; rfl)) (@pss_one _ _ _ (@ps_ret _ _ _ _ (@pv _ 2 _ _ (by rfl) (by first | exact Or.inl rfl | exact Or.inr (Or.inl rfl) | exact Or.inr (Or.inr rfl)) (by decide) (by decide))))))), ?_⟩
  refine ⟨_, rfl, a, ns, 0, rfl, hS, h63, Int.le_refl 0, fun c0 => ⟨c0, rfl, fun H1 r xs s1 hr1 h5 hnm => ?_⟩⟩
  refine ⟨Nat.zero_le _, fun l hl => ?_⟩
  have s2 : Same H1 (upd H1 l (.lst [])) := same_new hl _
  have B2 : (if ((ns.map V.int).length : Int) > 2 then ((ns.map V.int).length : Int) else 2) < (1000000 : Int) := by
    rw [List.length_map]
    split <;> omega
  refine ⟨_, rfl, a, _, rfl, .inl ((s1.trans s2).seq hS), _, _, rfl, 1, _, 8, rfl, ⟨by decide, by decide, by decide, by decide, ?B1, B2⟩, for_itf (fun i σ H' => ∃ (o1 o2 : Option V) (ys : List V), σ = [some (.ref a), some (.ref r), some (.ref l), o1, o2] ∧ (∀ b o, b ≠ l → H1 b = some o → H' b = some o) ∧ H' l = some (.lst ys) ∧ ys.length = i ∧ ∀ y ∈ ys, Two K xs H' y) ⟨_, _, [], rfl, fun b o _ e => s2 b o e, upd_same, rfl, by simp⟩ ?T2 ?_⟩
  case B1 =>
    show (-1000000 : Int) ≤ (if ((ns.map V.int).length : Int) > 2 then ((ns.map V.int).length : Int) else 2)
    split <;> omega
  case T2 =>
    rintro i σ H4 hi ⟨o1, o2, ys, rfl, s4, l4, hy, two⟩
    have nl : ∀ b o, H1 b = some o → b ≠ l := fun b o e => ne_of_none e hl
    have s14 : Same H1 H4 := fun b o e => s4 b o (nl b o e) e
    have s04 := s1.trans s14
    obtain ⟨ms, hms, hml⟩ := cut_ints ns (some (1 + (i : Int) * 8)) (some (1 + (i : Int) * 8 + 6)) h63
    obtain ⟨ms2, hms2, hml2⟩ := cut_ints ns (some (1 + (i : Int) * 8 + 4)) (some (1 + (i : Int) * 8 + 8)) h63
    refine ⟨_, rfl, _, rfl, _, rfl, _, rfl, _, _, rfl, rfl, _, rfl, a, _, rfl, s04.seq hS, fun e1 he1 => ?_⟩
    refine ⟨_, rfl, e1, r, ms, xs, rfl, SqL.of (by rw [upd_same]; exact congrArg (fun z => some (HO.lst z)) hms), hml, same_new he1 _ r _ (s14 _ _ hr1), h5, hnm, fun H5 v c ps s5 R hc G cB gB => ?_⟩
    have s45 : Same H4 H5 := (same_new he1 _).trans s5
    have s05 := s04.trans s45
    refine ⟨_, rfl, .inl ⟨rfl, _, SqL.of (s45 _ _ l4)⟩, _, rfl, _, rfl, _, rfl, _, rfl, _, _, rfl, rfl, _, rfl, _, rfl, _, _, rfl, rfl, _, rfl, a, _, rfl, s05.seq hS, fun e2 he2 => ?_⟩
    have s6 : Same H5 (upd H5 e2 (.lst (cutV (ns.map V.int) (some (1 + (i : Int) * 8 + 4)) (some (1 + (i : Int) * 8 + 8))))) := same_new he2 _
    refine ⟨_, rfl, v, e2, r, c, ps, ms2, xs, rfl, R.mono s6, hc, cB, G, gB, SqL.of (by rw [upd_same]; exact congrArg (fun z => some (HO.lst z)) hms2), hml2, s6 _ _ (s45 _ _ (s14 _ _ hr1)), h5, hnm, fun H6 w d qs s7 R2 hd dB G2 gB2 => ?_⟩
    have s46 := s45.trans (s6.trans s7)
    refine ⟨z2, fun p hp => ?_⟩
    have s8 : Same H6 (upd H6 p (.tup [v, w])) := same_new hp _
    have s48 := s46.trans s8
    refine ⟨l, ys, _, rfl, rfl, s48 _ _ l4, by rw [hy, sizeLine_eq]; have := rng_small hi B2; omega, ?_⟩
    have tups : ∀ b zs, upd H6 p (.tup [v, w]) b = some (.tup zs) → upd (upd H6 p (.tup [v, w])) l (.lst (ys ++ [.ref p])) b = some (.tup zs) := fun b zs e => by
      rw [upd_ne (fun z => by rw [z, s48 _ _ l4] at e; cases e)]; exact e
    refine ⟨_, _, ys ++ [.ref p], rfl, fun b o hb e => ?_, upd_same, by rw [List.length_append, hy]; rfl, fun y hy' => ?_⟩
    · rw [upd_ne hb]; exact s48 _ _ (s4 b o hb e)
    · rcases List.mem_append.mp hy' with h | h
      · exact Two.tups (fun b zs e => tups b zs (s48 _ _ e)) (two y h)
      · rw [List.mem_singleton.mp h]
        exact ⟨p, v, w, c, d, ps, qs, rfl, tups _ _ upd_same, len_tups tups (((R.mono s6).mono s7).mono s8), len_tups tups (R2.mono s8), hc, by omega, hd, dB, G, G2, fun p hp => by have := gB p hp; omega, gB2⟩
  rintro σ H4 ⟨o1, o2, ys, rfl, s4, l4, hy, two⟩
  exact ⟨_, rfl, q H4 l ys xs (fun b o e => s4 b o (ne_of_none (s1 _ _ e) hl) (s1 _ _ e)) l4 h5 hnm two (by
    rw [hy]
    exact Nat.le_of_not_lt fun z => absurd (rng_small (i := _ - 1) (Nat.sub_lt (Nat.lt_of_le_of_lt (Nat.zero_le _) z) (by decide)) B2) (by omega))⟩
end
end K06

set_option maxHeartbeats 1000000
namespace K06
open PySem L2
abbrev s_names_of : Stmt := top 1
abbrev s_noughts : Stmt := top 2
abbrev s_exceeding : Stmt := top 3
def spNamesOf : Sp := fun vs H Q _ => ∃ (v : V) (c : Int) (ps : List Pr), vs = [v] ∧ Rep H (lenDv c ps) v ∧ ps.length ≤ 40 ∧ ∀ (H' : Hp) (r : Addr), Same H H' → H' r = some (.lst ((ps.map (·.1)).map V.str)) → Q (.ref r) H'
def nil0 (qs : List Str) : List Pr := qs.map fun x => (x, 0)
def spNoughts : Sp := fun vs H Q _ => ∃ (v u : V) (c d : Int) (ps rs : List Pr), vs = [v, u] ∧ Rep H (lenDv c ps) v ∧ Rep H (lenDv d rs) u ∧ ps.length ≤ 20 ∧ rs.length ≤ 20 ∧
  ∀ (H' : Hp) (t : Addr) (qs : List Str), Same H H' → H t = none → H' t = some (.dK (dk (nil0 qs))) → qs.Pairwise txLt → qs.Nodup → (∀ x, x ∈ qs ↔ x ∈ ps.map (·.1) ++ rs.map (·.1)) → qs.length ≤ 40 → Q (.ref t) H'
/-- the first one's count or one of its times is greater -/
def Exc (c d : Int) (ps rs : List Pr) : Prop := d < c ∨ ∃ p ∈ ps, tm rs p.1 < p.2
/-- the names of both, each once -/
def Keys (kvs ps rs : List Pr) : Prop := (kvs.map (·.1)).Nodup ∧ (∀ x, x ∈ kvs.map (·.1) ↔ x ∈ ps.map (·.1) ++ rs.map (·.1)) ∧ kvs.length ≤ 40
def spExc : Sp := fun vs H Q _ => ∃ (v u : V) (c d : Int) (ps rs : List Pr), vs = [v, u] ∧ Rep H (lenDv c ps) v ∧ Rep H (lenDv d rs) u ∧ Canon ps ∧ Canon rs ∧ ps.length ≤ 20 ∧ rs.length ≤ 20 ∧ (∀ p ∈ ps, p.2 < 10 ^ 60) ∧
  (d < c → ∀ (H' : Hp) (t : Addr) (kvs : List Pr), Same H H' → H t = none → H' t = some (.dK (dk kvs)) → Keys kvs ps rs → (∀ y, tm kvs y = 0) → Q (.ref t) H') ∧
  (¬ d < c → ∀ (i : Nat) (p : Pr), ps[i]? = some p → tm rs p.1 < p.2 → (∀ r ∈ ps.take i, ¬ tm rs r.1 < r.2) → ∀ (H' : Hp) (t : Addr) (kvs : List Pr), Same H H' → H t = none → H' t = some (.dK (dk kvs)) → Keys kvs ps rs → (∀ y, tm kvs y = if p.1 = y then (d - c) / (p.2 - tm rs p.1) + 1 else 0) → Q (.ref t) H') ∧ (¬ Exc c d ps rs → ∀ H', Same H H' → Q .non H')
theorem nil0_len (qs : List Str) : (nil0 qs).length = qs.length := List.length_map _
theorem tm_nil0 (qs : List Str) (y : Str) : tm (nil0 qs) y = 0 := by
  induction qs with
  | nil => rfl
  | cons q qs ih => show (if q = y then 0 else tm (nil0 qs) y) = 0; rw [ih]; split <;> rfl
theorem putS_new {kvs : List Pr} {x : Str} {n : Int} (h : x ∉ kvs.map (·.1)) : putS kvs x n = kvs ++ [(x, n)] := by
  unfold putS
  rw [if_neg]
  intro e
  rw [List.any_eq_true] at e
  obtain ⟨p, hp, e⟩ := e
  exact h (List.mem_map.mpr ⟨p, hp, of_decide_eq_true e⟩)
theorem nil0_keys (qs : List Str) : (nil0 qs).map (·.1) = qs := by unfold nil0; rw [List.map_map]; exact List.map_id _
theorem keys0 {qs : List Str} {ps rs : List Pr} (nd : qs.Nodup) (mq : ∀ x, x ∈ qs ↔ x ∈ ps.map (·.1) ++ rs.map (·.1)) (lq : qs.length ≤ 40) : Keys (nil0 qs) ps rs := ⟨by rw [nil0_keys]; exact nd, fun x => by rw [nil0_keys]; exact mq x, by rw [nil0_len]; exact lq⟩
theorem putS_old {kvs : List Pr} {x : Str} {n : Int} (h : x ∈ kvs.map (·.1)) : (putS kvs x n).map (·.1) = kvs.map (·.1) := by
  obtain ⟨p, hp, e⟩ := List.mem_map.mp h
  unfold putS
  rw [if_pos (List.any_eq_true.mpr ⟨p, hp, decide_eq_true e⟩), List.map_map]
  refine List.map_congr_left fun q _ => ?_
  show (if q.1 = x then (q.1, n) else q).1 = q.1
  split <;> rfl
theorem keys1 {qs : List Str} {ps rs : List Pr} {x : Str} {n : Int} (nd : qs.Nodup) (mq : ∀ x, x ∈ qs ↔ x ∈ ps.map (·.1) ++ rs.map (·.1)) (lq : qs.length ≤ 40) (hx : x ∈ qs) : Keys (putS (nil0 qs) x n) ps rs := by
  have e : (putS (nil0 qs) x n).map (·.1) = qs := by rw [putS_old (by rw [nil0_keys]; exact hx), nil0_keys]
  refine ⟨by rw [e]; exact nd, fun y => by rw [e]; exact mq y, ?_⟩
  have := congrArg List.length e
  rw [List.length_map] at this
  omega
section
variable {P : Program} {w : World} {K : PySem.W.Frag} {mg : Str → Option Value} {base : Heap}
theorem sc_names_of : FnScope ["a"] ["a"] (defScope s_names_of) := ⟨rfl, rfl, rfl, by decide +kernel, rfl, by decide +kernel, by decide +kernel⟩
theorem ok_names_of {f : Addr} {fd : FuncData} (F : Fun K "names_of" "names_of" s_names_of f fd) (T : Txt K mg) : FnOk P w K mg base CX0 1 f fd ["a"] spNamesOf := by
  refine F.ok sc_names_of (fun vs H Q E h => ?_) (fun cdv A outer s H vs Q E hr h => ?_)
  · obtain ⟨v, c, ps, rfl, _⟩ := h
    rfl
  obtain ⟨v, c, ps, rfl, R, h40, q⟩ := h
  obtain ⟨a, a1, us, rfl, ha, ha1, ru, lu⟩ := len_inv R
  refine ⟨_, (@pss_one _ _ _ (@ps_ret _ _ _ _ (@pe_lc _ _ (["name", "times"]) ([]) _ _ _ _ _ _ _ _ _ (@pi_tup _ _ _ _ (@pe_ix _ _ _ _ _ _ _ ix_tup (@pv _ 0 _ _ (by rfl) (by first | exact Or.inl rfl | exact Or.inr (Or.inl rfl) | exact Or.inr (Or.inr rfl)) (by decide) (by decide)) (@pe_int _ _ _ _) (fun _ _ => rfl))) (.of rfl) rfl (fun _ _ _ => pg_tup rfl (@pgs_cons _ _ _ _ _ (@pg_name _ _ (0) _ (lc_nd (l := ["name", "times"]) ((by decide +kernel)) rfl) rfl (Or.inl rfl) (by first | exact .inl rfl | exact .inr rfl | assumption)) (@pgs_cons _ _ _ _ _ (@pg_name _ _ (1) _ (lc_nd (l := ["name", "times"]) ((by decide +kernel)) rfl) rfl (Or.inl rfl) (by first | exact .inl rfl | exact .inr rfl | assumption)) (@pgs_nil _) (by rfl)) (by rfl))) (gw_two (by decide) (by decide)) (fun _ _ _ => (@pif_nil _)) (fun _ _ _ => (@pv _ 0 _ _ (by rfl) (by first | exact Or.inl rfl | exact Or.inr (Or.inl rfl) | exact Or.inr (Or.inr rfl)) (by decide) (by decide))) (by intro _; rfl)))), ?_⟩
  refine ⟨_, rfl, a, _, 1, .ref a1, rfl, rfl, SqT.of ha, atI_nat (j := 1) rfl, a1, rfl, ⟨us, SqT.of ha1⟩, lc_tup (xs := us) (fun i ys H' => H' = H ∧ ys = (ps.take i).map fun p => V.str p.1) ⟨rfl, rfl⟩ (fun i ys H' _ p => by rw [p.1]; exact SqT.of ha1) ?_ ?_⟩
  · rintro i ys H' x hx ⟨rfl, rfl⟩
    obtain ⟨p, b, hp, rfl, hb⟩ := part_at ru hx
    have hi : i < us.length := (List.getElem?_eq_some_iff.mp hx).1
    refine turn_two hb ⟨_, rfl, ?_, rfl, ?_⟩
    · rw [List.length_map, List.length_take, sizeLine_eq]; omega
    · rw [List.take_add_one, hp, List.map_append]; rfl
  · rintro ys H' ⟨rfl, rfl⟩ r hr'
    refine q _ r (same_new hr' _) ?_
    rw [upd_same, lu, List.take_length, List.map_map]; rfl
theorem sc_noughts : FnScope ["a", "b", "numbers", "name"] ["a", "b"] (defScope s_noughts) := ⟨rfl, rfl, rfl, by decide +kernel, rfl, by decide +kernel, by decide +kernel⟩
theorem ok_noughts {f : Addr} {fd : FuncData} {k : Nat} (F : Fun K "noughts" "noughts" s_noughts f fd) (T : Txt K mg) (Dnames_of : Def P w K mg base k "names_of" ["a"] spNamesOf) : FnOk P w K mg base CX0 (k + 1) f fd ["a", "b"] spNoughts := by
  have nd : (["a", "b", "numbers", "name"] : List Str).Nodup := sc_noughts.nd
  refine F.ok sc_noughts (fun vs H Q E h => ?_) (fun cdv A outer s H vs Q E hr h => ?_)
  · obtain ⟨v, u, c, d, ps, rs, rfl, _⟩ := h
    rfl
  obtain ⟨v, u, c, d, ps, rs, rfl, R1, R2, l1, l2, q⟩ := h
  have hu := hu_of hr
  refine ⟨_, (@pss_cons _ _ _ _ _ (@ps_set _ _ (2) _ _ _ _ nd rfl (Or.inl rfl) (@pe_dnewK _ _) (by rfl) (by first | exact .inl rfl | exact .inr rfl | assumption)) (@pss_cons _ _ _ _ _ (@ps_for _ _ _ _ _ _ _ _ PassesOwn.never rfl (@pi_list _ _ _ _ (@pe_callB _ _ _ _ _ _ _ _ _ (call_sortedS rfl) rfl T.sorted (by decide +kernel) (@pa_cons _ _ _ _ _ (@pe_callTy _ _ _ _ _ _ _ _ _ (call_setS rfl) rfl T.set (by decide +kernel) (@pa_cons _ _ _ _ _ (@pe_op _ _ _ _ _ _ _ _ op_catQ (@pe_def _ _ _ _ _ _ _ _ _ _ Dnames_of hr rfl (@pa_cons _ _ _ _ _ (@pv _ 0 _ _ (by rfl) (by first | exact Or.inl rfl | exact Or.inr (Or.inl rfl) | exact Or.inr (Or.inr rfl)) (by decide) (by decide)) (@pa_nil _) (by rfl)) (by decide) (by rfl) (by rfl)) (@pe_def _ _ _ _ _ _ _ _ _ _ Dnames_of hr rfl (@pa_cons _ _ _ _ _ (@pv _ 1 _ _ (by rfl) (by first | exact Or.inl rfl | exact Or.inr (Or.inl rfl) | exact Or.inr (Or.inr rfl)) (by decide) (by decide)) (@pa_nil _) (by rfl)) (by decide) (by rfl) (by rfl))) (@pa_nil _) (by rfl)) (by decide) (by decide) (by rfl) (by rfl)) (@pa_nil _) (by rfl)) (by decide) (by decide) (by rfl) (by rfl))) (@pg_name _ _ (3) _ nd rfl (Or.inl rfl) (by first | exact .inl rfl | exact .inr rfl | assumption)) (@pss_one _ _ _ (@ps_dput _ _ _ _ _ _ _ _ _ hu (@pv _ 2 _ _ (by rfl) (by first | exact Or.inl rfl | exact Or.inr (Or.inl rfl) | exact Or.inr (Or.inr rfl)) (by decide) (by decide)) (@pv _ 3 _ _ (by rfl) (by first | exact Or.inl rfl | exact Or.inr (Or.inl rfl) | exact Or.inr (Or.inr rfl)) (by decide) (by decide)) (@pe_int _ _ _ _) rfl)) (by intro _; rfl)) (@pss_one _ _ _ (@ps_ret _ _ _ _ (@pv _ 2 _ _ (by rfl) (by first | exact Or.inl rfl | exact Or.inr (Or.inl rfl) | exact Or.inr (Or.inr rfl)) (by decide) (by decide)))))), ?_⟩
  refine fun t ht => ?_
  have s0 : Same H (upd H t (.dK [])) := same_new ht _
  have t0 : upd H t (.dK []) t = some (.dK []) := upd_same
  generalize upd H t (.dK []) = H0 at s0 t0 ⊢
  refine ⟨_, rfl, v, c, ps, rfl, R1.mono s0, by omega, fun H1 r1 s1 hr1 => ?_⟩
  refine ⟨_, rfl, u, d, rs, rfl, (R2.mono s0).mono s1, by omega, fun H2 r2 s2 hr2 => ?_⟩
  refine ⟨r1, r2, _, _, rfl, rfl, SqL.of (s2 _ _ hr1), SqL.of hr2, ?_, fun l3 hl3 => ?_⟩
  · simp only [List.length_map, sizeLine_eq]; omega
  have s3 := same_new hl3 (.lst ((ps.map (·.1)).map V.str ++ (rs.map (·.1)).map V.str))
  have h3 : upd H2 l3 (.lst ((ps.map (·.1)).map V.str ++ (rs.map (·.1)).map V.str)) l3 = some (.lst ((ps.map (·.1) ++ rs.map (·.1)).map V.str)) := by rw [upd_same, List.map_append]
  have s03 := s1.trans (s2.trans s3)
  generalize upd H2 l3 (.lst ((ps.map (·.1)).map V.str ++ (rs.map (·.1)).map V.str)) = H3 at s3 h3 s03 ⊢
  have ly : (ps.map (·.1) ++ rs.map (·.1)).length ≤ 40 := by simp only [List.length_append, List.length_map]; omega
  refine ⟨l3, ps.map (·.1) ++ rs.map (·.1), rfl, SqL.of h3, by omega, fun S zs hS ndz mz lz => ?_⟩
  refine ⟨S, zs, rfl, upd_same, ndz, by omega, fun l qs hl pq pw => ?_⟩
  have ndq : qs.Nodup := pq.nodup_iff.mpr ndz
  have lq : qs.length ≤ 40 := by rw [pq.length_eq]; omega
  have s4 := same_new hS (SetO P w S zs)
  have s5 := same_new hl (.lst (qs.map V.str))
  have s05 : Same H0 (upd (upd H3 S (SetO P w S zs)) l (.lst (qs.map V.str))) := s03.trans (s4.trans s5)
  have h5 : upd (upd H3 S (SetO P w S zs)) l (.lst (qs.map V.str)) l = some (.lst (qs.map V.str)) := upd_same
  have lt : l ≠ t := Ne.symm (ne_of_none (s4 _ _ (s03 _ _ t0)) hl)
  refine ⟨l, rfl, ⟨_, SqL.of h5⟩, for_list (xs := qs.map V.str) (fun i σ H' => ∃ (o1 : Option V), σ = [some v, some u, some (.ref t), o1] ∧ (∀ b o, b ≠ t → upd (upd H3 S (SetO P w S zs)) l (.lst (qs.map V.str)) b = some o → H' b = some o) ∧ H' t = some (.dK (dk (nil0 (qs.take i)))))
    ⟨_, rfl, fun b o _ e => e, s05 _ _ t0⟩ (fun i σ H' _ ⟨_, _, sx, _⟩ => SqL.of (sx _ _ lt h5)) ?T1 ?_⟩
  case T1 =>
    rintro i x σ H6 hx ⟨o1, rfl, s6, t6⟩
    rw [List.getElem?_map] at hx
    obtain ⟨y, hy, rfl⟩ := Option.map_eq_some_iff.mp hx
    have hti : qs.take (i + 1) = qs.take i ++ [y] := by rw [List.take_add_one, hy]; rfl
    refine ⟨_, rfl, _, rfl, t, _, rfl, DPut.k (k := Sum.inr y) t6 ?_, ?_⟩
    · rw [show (dk (nil0 (qs.take i))).length = (qs.take i).length by unfold dk nil0; rw [List.length_map, List.length_map], List.length_take, sizeLine_eq]; omega
    have hn : y ∉ (nil0 (qs.take i)).map (·.1) := by
      have e : (nil0 (qs.take i)).map (·.1) = qs.take i := by unfold nil0; rw [List.map_map]; exact List.map_id _
      rw [e]
      have hd : (qs.take (i + 1)).Nodup := (List.take_sublist _ _).nodup ndq
      rw [hti, List.nodup_append] at hd
      exact fun z => hd.2.2 y z y (by simp) rfl
    refine ⟨_, rfl, fun b o hb e => ?_, ?_⟩
    · rw [upd_ne hb]; exact s6 b o hb e
    · rw [upd_same, ← dk_put, putS_new hn, hti]
      unfold nil0
      rw [List.map_append]; rfl
  rintro σ H6 ⟨o1, rfl, s6, t6⟩
  rw [List.length_map, List.take_length] at t6
  exact ⟨_, rfl, q H6 t qs (fun b o e => s6 b o (ne_of_none e ht) (s05 _ _ (s0 _ _ e))) ht t6 pw ndq (fun x => by rw [pq.mem_iff]; exact mz x) lq⟩
theorem sc_exceeding : FnScope ["a", "b", "numbers", "other", "name", "times", "gain"] ["a", "b"] (defScope s_exceeding) := ⟨rfl, rfl, rfl, by decide +kernel, rfl, by decide +kernel, by decide +kernel⟩
theorem ok_exceeding {f : Addr} {fd : FuncData} {k : Nat} (F : Fun K "exceeding" "exceeding" s_exceeding f fd) (T : Txt K mg) (Dnoughts : Def P w K mg base k "noughts" ["a", "b"] spNoughts) : FnOk P w K mg base CX0 (k + 1) f fd ["a", "b"] spExc := by
  have nd : (["a", "b", "numbers", "other", "name", "times", "gain"] : List Str).Nodup := sc_exceeding.nd
  refine F.ok sc_exceeding (fun vs H Q E h => ?_) (fun cdv A outer s H vs Q E hr h => ?_)
  · obtain ⟨v, u, c, d, ps, rs, rfl, _⟩ := h
    rfl
  obtain ⟨v, u, c, d, ps, rs, rfl, R1, R2, C1, C2, l1, l2, hB, qz, qy, qn⟩ := h
  have hu := hu_of hr
  obtain ⟨a, a1, us, rfl, ha, ha1, ru, lu⟩ := len_inv R1
  obtain ⟨b, b1, ws, rfl, hb, hb1, rw', lw⟩ := len_inv R2
  obtain ⟨zs, ez, hz, ndz, ezd⟩ := dict_parts rw' (names_nodup C2.pw)
  refine ⟨_, (@pss_cons _ _ _ _ _ (@ps_set _ _ (2) _ _ _ _ nd rfl (Or.inl rfl) (@pe_def _ _ _ _ _ _ _ _ _ _ Dnoughts hr rfl (@pa_cons _ _ _ _ _ (@pv _ 0 _ _ (by rfl) (by first | exact Or.inl rfl | exact Or.inr (Or.inl rfl) | exact Or.inr (Or.inr rfl)) (by decide) (by decide)) (@pa_cons _ _ _ _ _ (@pv _ 1 _ _ (by rfl) (by first | exact Or.inl rfl | exact Or.inr (Or.inl rfl) | exact Or.inr (Or.inr rfl)) (by decide) (by decide)) (@pa_nil _) (by rfl)) (by rfl)) (by decide) (by rfl) (by rfl)) (by rfl) (by first | exact .inl rfl | exact .inr rfl | assumption)) (@pss_cons _ _ _ _ _ (@ps_if _ _ _ _ _ _ _ _ (@pt_cmpR _ _ _ _ _ _ _ _ op_gt (@pe_ix _ _ _ _ _ _ _ ix_tup (@pv _ 0 _ _ (by rfl) (by first | exact Or.inl rfl | exact Or.inr (Or.inl rfl) | exact Or.inr (Or.inr rfl)) (by decide) (by decide)) (@pe_int _ _ _ _) (fun _ _ => rfl)) (@pe_ix _ _ _ _ _ _ _ ix_tup (@pv _ 1 _ _ (by rfl) (by first | exact Or.inl rfl | exact Or.inr (Or.inl rfl) | exact Or.inr (Or.inr rfl)) (by decide) (by decide)) (@pe_int _ _ _ _) (fun _ _ => rfl)) (nomark _)) (@pss_one _ _ _ (@ps_ret _ _ _ _ (@pv _ 2 _ _ (by rfl) (by first | exact Or.inl rfl | exact Or.inr (Or.inl rfl) | exact Or.inr (Or.inr rfl)) (by decide) (by decide)))) (@pss_nil _)) (@pss_cons _ _ _ _ _ (@ps_set _ _ (3) _ _ _ _ nd rfl (Or.inl rfl) (@pe_callTy _ _ _ _ _ _ _ _ _ (call_dictP rfl) rfl T.dict (by decide +kernel) (@pa_cons _ _ _ _ _ (@pe_ix _ _ _ _ _ _ _ ix_tup (@pv _ 1 _ _ (by rfl) (by first | exact Or.inl rfl | exact Or.inr (Or.inl rfl) | exact Or.inr (Or.inr rfl)) (by decide) (by decide)) (@pe_int _ _ _ _) (fun _ _ => rfl)) (@pa_nil _) (by rfl)) (by decide) (by decide) (by rfl) (by rfl)) (by rfl) (by first | exact .inl rfl | exact .inr rfl | assumption)) (@pss_cons _ _ _ _ _ (@ps_for _ _ _ _ _ _ _ _ PassesOwn.never rfl (@pi_tup _ _ _ _ (@pe_ix _ _ _ _ _ _ _ ix_tup (@pv _ 0 _ _ (by rfl) (by first | exact Or.inl rfl | exact Or.inr (Or.inl rfl) | exact Or.inr (Or.inr rfl)) (by decide) (by decide)) (@pe_int _ _ _ _) (fun _ _ => rfl))) (@pg_tup _ _ _ _ _ _ rfl (@pgs_cons _ _ _ _ _ (@pg_name _ _ (4) _ nd rfl (Or.inl rfl) (by first | exact .inl rfl | exact .inr rfl | assumption)) (@pgs_cons _ _ _ _ _ (@pg_name _ _ (5) _ nd rfl (Or.inl rfl) (by first | exact .inl rfl | exact .inr rfl | assumption)) (@pgs_nil _) (by rfl)) (by rfl)) (by rfl) (by rfl)) (@pss_cons _ _ _ _ _ (@ps_set _ _ (6) _ _ _ _ nd rfl (Or.inl rfl) (@pe_op _ _ _ _ _ _ _ _ op_sub (@pv _ 5 _ _ (by rfl) (by first | exact Or.inl rfl | exact Or.inr (Or.inl rfl) | exact Or.inr (Or.inr rfl)) (by decide) (by decide)) (@pe_dget2 _ _ _ _ _ _ _ _ _ hu (@pv _ 3 _ _ (by rfl) (by first | exact Or.inl rfl | exact Or.inr (Or.inl rfl) | exact Or.inr (Or.inr rfl)) (by decide) (by decide)) (@pv _ 4 _ _ (by rfl) (by first | exact Or.inl rfl | exact Or.inr (Or.inl rfl) | exact Or.inr (Or.inr rfl)) (by decide) (by decide)) (@pe_int _ _ _ _) ⟨rfl, rfl, rfl, rfl⟩)) (by rfl) (by first | exact .inl rfl | exact .inr rfl | assumption)) (@pss_one _ _ _ (@ps_if _ _ _ _ _ _ _ _ (@pt_cmpR _ _ _ _ _ _ _ _ op_gt (@pv _ 6 _ _ (by rfl) (by first | exact Or.inl rfl | exact Or.inr (Or.inl rfl) | exact Or.inr (Or.inr rfl)) (by decide) (by decide)) (@pe_int _ _ _ _) (nomark _)) (@pss_cons _ _ _ _ _ (@ps_dput _ _ _ _ _ _ _ _ _ hu (@pv _ 2 _ _ (by rfl) (by first | exact Or.inl rfl | exact Or.inr (Or.inl rfl) | exact Or.inr (Or.inr rfl)) (by decide) (by decide)) (@pv _ 4 _ _ (by rfl) (by first | exact Or.inl rfl | exact Or.inr (Or.inl rfl) | exact Or.inr (Or.inr rfl)) (by decide) (by decide)) (@pe_op _ _ _ _ _ _ _ _ op_add (@pe_op _ _ _ _ _ _ _ _ op_fdivB (@pe_op _ _ _ _ _ _ _ _ op_sub (@pe_ix _ _ _ _ _ _ _ ix_tup (@pv _ 1 _ _ (by rfl) (by first | exact Or.inl rfl | exact Or.inr (Or.inl rfl) | exact Or.inr (Or.inr rfl)) (by decide) (by decide)) (@pe_int _ _ _ _) (fun _ _ => rfl)) (@pe_ix _ _ _ _ _ _ _ ix_tup (@pv _ 0 _ _ (by rfl) (by first | exact Or.inl rfl | exact Or.inr (Or.inl rfl) | exact Or.inr (Or.inr rfl)) (by decide) (by decide)) (@pe_int _ _ _ _) (fun _ _ => rfl))) (@pv _ 6 _ _ (by rfl) (by first | exact Or.inl rfl | exact Or.inr (Or.inl rfl) | exact Or.inr (Or.inr rfl)) (by decide) (by decide))) (@pe_int _ _ _ _)) rfl) (@pss_one _ _ _ (@ps_ret _ _ _ _ (@pv _ 2 _ _ (by rfl) (by first | exact Or.inl rfl | exact Or.inr (Or.inl rfl) | exact Or.inr (Or.inr rfl)) (by decide) (by decide))))) (@pss_nil _)))) (by intro _; rfl)) (@pss_one _ _ _ (@ps_ret _ _ _ _ (@pe_non _ _ _))))))), ?_⟩
  refine ⟨_, rfl, _, rfl, .ref a, .ref b, c, d, ps, rs, rfl, R1, R2, l1, l2, fun H1 t qs s1 ht t1 pw ndq mq lq => ?_⟩
  refine ⟨_, rfl, a, _, 0, .int c, rfl, rfl, SqT.of (s1 _ _ ha), atI_nat (j := 0) rfl, _, rfl, b, _, 0, .int d, rfl, rfl, SqT.of (s1 _ _ hb), atI_nat (j := 0) rfl, _, _, rfl, rfl, _, rfl, ite2 (fun h => ?_) (fun h => ?_)⟩
  · exact ⟨_, rfl, qz (of_decide_eq_true h) H1 t (nil0 qs) s1 ht t1 (keys0 ndq mq lq) (tm_nil0 qs)⟩
  have hcd : ¬ d < c := fun z => h (decide_eq_true z)
  refine ⟨_, rfl, b, _, 1, .ref b1, rfl, rfl, SqT.of (s1 _ _ hb), atI_nat (j := 1) rfl, b1, zs, rfl, by rw [s1 _ _ hb1, ez], fun p hp => s1 _ _ (hz p hp), ndz, fun o ho => ?_⟩
  rw [ezd]
  have s2 := same_new ho (.dK (dk rs))
  have o2 : upd H1 o (.dK (dk rs)) o = some (.dK (dk rs)) := upd_same
  have s12 : Same H (upd H1 o (.dK (dk rs))) := s1.trans s2
  have t2 := s2 _ _ t1
  generalize upd H1 o (.dK (dk rs)) = H2 at s2 o2 s12 t2 ⊢
  refine ⟨_, rfl, a, _, 1, .ref a1, rfl, rfl, SqT.of (s12 _ _ ha), atI_nat (j := 1) rfl, a1, rfl, ⟨us, SqT.of (s12 _ _ ha1)⟩, for_tup (xs := us) (fun i σ H' => ∃ (o1 o3 o4 : Option V), σ = [some (.ref a), some (.ref b), some (.ref t), some (.ref o), o1, o3, o4] ∧ H' = H2 ∧ ∀ p ∈ ps.take i, ¬ tm rs p.1 < p.2)
    ⟨_, _, _, rfl, rfl, by simp⟩ (fun i σ H' _ ⟨_, _, _, _, e, _⟩ => by rw [e]; exact SqT.of (s12 _ _ ha1)) ?T1 ?_⟩
  case T1 =>
    rintro i x σ H3 hx ⟨o1, o3, o4, rfl, rfl, hno⟩
    obtain ⟨p, e, hp, rfl, he⟩ := part_at ru hx
    have hpm := List.mem_of_getElem? hp
    have p1 := hB p hpm
    have g0 := tm_nonneg (fun r hr' => Int.le_trans (by decide) (C2.ge r hr')) p.1
    refine ⟨e, _, rfl, SqT.of (s12 _ _ he), rfl, _, _, rfl, _, _, rfl, rfl, ?_⟩
    refine ⟨_, rfl, _, rfl, o, rfl, .inl ⟨_, .inl o2⟩, _, rfl, _, DGet.k (k := Sum.inr p.1) o2, p.2, tm rs p.1, rfl, dk_tm _ _, ?_⟩
    refine ⟨_, rfl, _, _, rfl, rfl, _, rfl, ite2 (fun hg => ?_) (fun hg => ?_)⟩
    · have hg' : 0 < p.2 - tm rs p.1 := of_decide_eq_true hg
      refine ⟨_, rfl, b, _, 0, .int d, rfl, rfl, SqT.of (s12 _ _ hb), atI_nat (j := 0) rfl, _, rfl, a, _, 0, .int c, rfl, rfl, SqT.of (s12 _ _ ha), atI_nat (j := 0) rfl, _, _, rfl, rfl, _, rfl, _, _, rfl, rfl, ⟨hg', by omega⟩, _, _, rfl, rfl, _, rfl, _, rfl, t, _, rfl, DPut.k (k := Sum.inr p.1) t2 ?_, ?_⟩
      · rw [show (dk (nil0 qs)).length = qs.length by unfold dk nil0; rw [List.length_map, List.length_map], sizeLine_eq]; omega
      have hyq : p.1 ∈ qs := (mq _).mpr (List.mem_append_left _ (List.mem_map_of_mem hpm))
      refine ⟨_, rfl, qy hcd i p hp (by omega) (fun r hr' => by have := hno r hr'; omega) _ t (putS (nil0 qs) p.1 ((d - c) / (p.2 - tm rs p.1) + 1)) (fun g ob hg2 => by rw [upd_ne (ne_of_none hg2 ht)]; exact s12 _ _ hg2) ht (by rw [upd_same, dk_put]) (keys1 ndq mq lq hyq) fun y => by rw [tm_put, tm_nil0]⟩
    · have hg' : ¬ 0 < p.2 - tm rs p.1 := fun z => hg (decide_eq_true z)
      refine ⟨_, _, _, rfl, rfl, fun r hr' => ?_⟩
      rw [List.take_add_one, hp] at hr'
      rcases List.mem_append.mp hr' with h2 | h2
      · exact hno r h2
      · have e2 : r = p := by simpa using h2
        subst e2; omega
  rintro σ H3 ⟨o1, o3, o4, rfl, rfl, hno⟩
  rw [lu, List.take_length] at hno
  exact qn (fun z => z.elim hcd fun ⟨p, hp, h2⟩ => hno p hp h2) _ s12
end
end K06

namespace K06
open PySem
/-! ### worths, and lengths put in -/
def W (num : Str → Int) : List Pr → Int
  | [] => 0
  | p :: ps => p.2 * num p.1 + W num ps
theorem W_sum (num : Str → Int) (ps : List Pr) : (ps.map fun p => p.2 * num p.1).sum = W num ps := by
  induction ps with
  | nil => rfl
  | cons p ps ih => rw [List.map_cons, List.sum_cons, ih]; rfl
/-! ### places -/
end K06

set_option maxHeartbeats 1000000
namespace K06
open PySem L2
abbrev s_lworth : Stmt := top 12
def spWorth : Sp := fun vs H Q _ => ∃ (v : V) (d : Addr) (c : Int) (ps nums : List Pr), vs = [v, .ref d] ∧ Rep H (lenDv c ps) v ∧ ps.length ≤ 40 ∧ H d = some (.dK (dk nums)) ∧ (∀ p ∈ ps, IntMulOk p.2 (tm nums p.1)) ∧ ∀ H', Same H H' → Q (.int (c + W (tm nums) ps)) H'
section
variable {P : Program} {w : World} {K : PySem.W.Frag} {mg : Str → Option Value} {base : Heap}
theorem sc_lworth : FnScope ["_law_a", "_law_numbers"] ["_law_a", "_law_numbers"] (defScope s_lworth) := ⟨rfl, rfl, rfl, by decide +kernel, rfl, by decide +kernel, by decide +kernel⟩
theorem ok_lworth {f : Addr} {fd : FuncData} (F : Fun K "_law_worth" "_law_worth" s_lworth f fd) (T : Txt K mg) : FnOk P w K mg base CX0 1 f fd ["_law_a", "_law_numbers"] spWorth := by
  refine F.ok sc_lworth (fun vs H Q E h => ?_) (fun cdv A outer s H vs Q E hr h => ?_)
  · obtain ⟨v, d, c, ps, nums, rfl, _⟩ := h
    rfl
  obtain ⟨v, d, c, ps, nums, rfl, R, l40, hd, hm, q⟩ := h
  have hu := hu_of hr
  obtain ⟨a, a1, us, rfl, ha, ha1, ru, lu⟩ := len_inv R
  refine ⟨_, (@pss_one _ _ _ (@ps_ret _ _ _ _ (@pe_op _ _ _ _ _ _ _ _ op_add (@pe_ix _ _ _ _ _ _ _ ix_tup (@pv _ 0 _ _ (by rfl) (by first | exact Or.inl rfl | exact Or.inr (Or.inl rfl) | exact Or.inr (Or.inr rfl)) (by decide) (by decide)) (@pe_int _ _ _ _) (fun _ _ => rfl)) (@pe_callB _ _ _ _ _ _ _ _ _ (call_sumL rfl) rfl T.sum (by decide +kernel) (@pa_cons _ _ _ _ _ (@pe_lc _ _ (["_law_name", "_law_times"]) ([1]) _ _ _ _ _ _ _ _ _ (@pi_tup _ _ _ _ (@pe_ix _ _ _ _ _ _ _ ix_tup (@pv _ 0 _ _ (by rfl) (by first | exact Or.inl rfl | exact Or.inr (Or.inl rfl) | exact Or.inr (Or.inr rfl)) (by decide) (by decide)) (@pe_int _ _ _ _) (fun _ _ => rfl))) (.of rfl) rfl (fun _ _ _ => pg_tup rfl (@pgs_cons _ _ _ _ _ (@pg_name _ _ (0) _ (lc_nd (l := ["_law_name", "_law_times", "_law_numbers"]) ((by decide +kernel)) rfl) rfl (Or.inl rfl) (by first | exact .inl rfl | exact .inr rfl | assumption)) (@pgs_cons _ _ _ _ _ (@pg_name _ _ (1) _ (lc_nd (l := ["_law_name", "_law_times", "_law_numbers"]) ((by decide +kernel)) rfl) rfl (Or.inl rfl) (by first | exact .inl rfl | exact .inr rfl | assumption)) (@pgs_nil _) (by rfl)) (by rfl))) (gw_two (by decide) (by decide)) (fun _ _ _ => (@pif_nil _)) (fun _ _ _ => (@pe_op _ _ _ _ _ _ _ _ op_mulK (@pv _ 1 _ _ (by rfl) (by first | exact Or.inl rfl | exact Or.inr (Or.inl rfl) | exact Or.inr (Or.inr rfl)) (by decide) (by decide)) (@pe_dget2 _ _ _ _ _ _ _ _ _ hu (@pv _ 2 _ _ (by rfl) (by first | exact Or.inl rfl | exact Or.inr (Or.inl rfl) | exact Or.inr (Or.inr rfl)) (by decide) (by decide)) (@pv _ 0 _ _ (by rfl) (by first | exact Or.inl rfl | exact Or.inr (Or.inl rfl) | exact Or.inr (Or.inr rfl)) (by decide) (by decide)) (@pe_int _ _ _ _) ⟨rfl, rfl, rfl, rfl⟩))) (by intro _; rfl)) (@pa_nil _) (by rfl)) (by decide) (by decide) (by rfl) (by rfl))))), ?_⟩
  refine ⟨_, rfl, a, _, 0, .int c, rfl, rfl, SqT.of ha, atI_nat (j := 0) rfl, _, rfl, a, _, 1, .ref a1, rfl, rfl, SqT.of ha, atI_nat (j := 1) rfl, a1, rfl, ⟨us, SqT.of ha1⟩, ?_⟩
  refine lc_tup (xs := us) (fun i ys H' => H' = H ∧ ys = ((ps.take i).map fun p => p.2 * tm nums p.1).map V.int) ⟨rfl, rfl⟩ (fun i ys H' _ p => by rw [p.1]; exact SqT.of ha1) ?_ ?_
  · rintro i ys H1 x hx ⟨rfl, rfl⟩
    obtain ⟨p, b, hp, rfl, hb⟩ := part_at ru hx
    have hi : i < us.length := (List.getElem?_eq_some_iff.mp hx).1
    refine turn_two hb ⟨_, rfl, _, rfl, d, rfl, .inl ⟨_, .inl hd⟩, _, rfl, _, DGet.k (k := Sum.inr p.1) hd, p.2, tm nums p.1, rfl, dk_tm _ _, hm p (List.mem_of_getElem? hp), ?_, rfl, ?_⟩
    · simp only [List.length_map, List.length_take, sizeLine_eq]; omega
    · rw [List.take_add_one, hp, List.map_append, List.map_append]; rfl
  · rintro ys H1 ⟨rfl, rfl⟩ l hl
    rw [lu, List.take_length]
    refine ⟨l, _, rfl, SqL.of upd_same, _, _, rfl, rfl, ?_⟩
    rw [W_sum]
    exact q _ (same_new hl _)
end
end K06

set_option maxHeartbeats 1000000
namespace K06
open PySem L2
abbrev s_first : Stmt := top 13
theorem same_two {H : Hp} {p : Addr} (hp : H p = none) (a b : HO) : Same H (upd (upd H p a) p b) := fun g o e => by rw [upd_ne (ne_of_none e hp), upd_ne (ne_of_none e hp)]; exact e
theorem W_if {num : Str → Int} {x : Str} {g : Int} (h : ∀ y, num y = if x = y then g else 0) : ∀ {ps : List Pr}, (ps.map (·.1)).Nodup → W num ps = tm ps x * g
  | [], _ => by show (0 : Int) = 0 * g; rw [Int.zero_mul]
  | p :: ps, nd => by
    rw [List.map_cons, List.nodup_cons] at nd
    have ih := W_if h nd.2
    show p.2 * num p.1 + W num ps = (if p.1 = x then p.2 else tm ps x) * g
    rw [ih, h p.1]
    by_cases e : p.1 = x
    · rw [if_pos e, if_pos e.symm, tm_none (x := x) fun q hq z => nd.1 (e ▸ z ▸ List.mem_map_of_mem hq)]; omega
    · rw [if_neg e, if_neg (Ne.symm e)]; omega
theorem W_nil {num : Str → Int} (h : ∀ y, num y = 0) (ps : List Pr) : W num ps = 0 := by
  induction ps with
  | nil => rfl
  | cons p ps ih => show p.2 * num p.1 + W num ps = 0; rw [ih, h]; omega
theorem lc_vals {k : Nat} {ix : List Nat} {g : TG} {tt : TT} {te : TE} {σ : St} {H1 : Hp} {Q : List V → Hp → Prop} {d : Addr} {o : Obj} {kvs : List (Key × V)} (F : V → V) (hd : H1 d = some (.frz o (.dK kvs)))
    (hs : ∀ i ys p, kvs[i]? = some p → ys.length = i → lcTurn k ix g tt te σ p.2 ys H1 fun ys' H' => ys' = ys ++ [F p.2] ∧ H' = H1) (hq : Q (kvs.map fun p => F p.2) H1) : rLC (Itv d o kvs) k ix g tt te σ H1 Q := by
  refine ⟨fun i m ys H => m = kvs.length - i ∧ i ≤ kvs.length ∧ H = H1 ∧ ys = (kvs.take i).map fun p => F p.2, ⟨kvs.length, by simp, Nat.zero_le _, rfl, by simp⟩, ?_⟩
  rintro i m ys H ⟨rfl, hi, rfl, rfl⟩
  by_cases hlt : i < kvs.length
  · refine .inr ⟨⟨hd, hlt⟩, fun ys' H' => ys' = ((kvs.take i).map fun p => F p.2) ++ [F kvs[i].2] ∧ H' = H, fun ys' H' ⟨e1, e2⟩ => ⟨kvs.length - (i + 1), by omega, rfl, hlt, e2, by rw [e1, List.take_add_one, List.getElem?_eq_getElem hlt, List.map_append]; rfl⟩, fun x H' y => ?_⟩
    · obtain ⟨rfl, kk, e⟩ := y
      have e2 : kvs[i] = (kk, x) := by rw [List.getElem?_eq_getElem hlt] at e; exact Option.some.inj e
      have h := hs i ((kvs.take i).map fun p => F p.2) (kk, x) e (by rw [List.length_map, List.length_take]; omega)
      rw [e2]; exact h
  · have e : i = kvs.length := by omega
    subst e
    exact .inl ⟨⟨hd, rfl⟩, by rw [List.take_length]; exact hq⟩
theorem kit_dict (K : PySem.W.Frag) : PySem.W.kitOne K (.type "dict") (.type "dict") = some true := by
  unfold PySem.W.kitOne PySem.W.kitCls
  kernel_rfl
theorem valV_dk {kvs : List Pr} {x : Str} (h : x ∈ kvs.map (·.1)) : valV (dk kvs) (Sum.inr x) = some (.int (tm kvs x)) := by
  have e := dk_tm kvs x
  cases hv : valV (dk kvs) (Sum.inr x) with
  | some v => rw [hv] at e; exact congrArg some e
  | none =>
    exfalso
    obtain ⟨p, hp, rfl⟩ := List.mem_map.mp h
    unfold valV at hv
    rw [Option.map_eq_none_iff, List.find?_eq_none] at hv
    exact hv (Sum.inr p.1, .int p.2) (List.mem_map.mpr ⟨p, hp, rfl⟩) (by simp)
theorem deq {k1 k2 ps rs : List Pr} (h1 : Keys k1 ps rs) (h2 : Keys k2 ps rs) (e : ∀ y, tm k1 y = tm k2 y) : (dk k1).length = (dk k2).length ∧ ∀ p ∈ dk k1, ∃ i : Int, p.2 = .int i ∧ valV (dk k2) p.1 = some (.int i) := by
  have m : ∀ x, x ∈ k1.map (·.1) ↔ x ∈ k2.map (·.1) := fun x => by rw [h1.2.1, h2.2.1]
  have pm := (List.perm_ext_iff_of_nodup h1.1 h2.1).mpr m
  refine ⟨by have := pm.length_eq; simp only [dk, List.length_map] at this ⊢; exact this, fun p hp => ?_⟩
  obtain ⟨r, hr, rfl⟩ := List.mem_map.mp hp
  exact ⟨r.2, rfl, by rw [valV_dk ((m _).mp (List.mem_map_of_mem hr)), ← e, tm_mem h1.1 hr]⟩
/-- after a walk over its values the dict stands as before -/
theorem same_thaw {H : Hp} {t l : Addr} {o : Obj} {m : List (Key × V)} {u : HO} (ht : H t = some (.dK m)) (hl : upd H t (.frz o (.dK m)) l = none) : Same H (upd (upd (upd H t (.frz o (.dK m))) l u) t (.dK m)) := fun b v e => by
  by_cases hb : b = t
  · subst hb; rw [upd_same, ← e, ht]
  · rw [upd_ne hb]
    have hbl : b ≠ l := fun z => by
      rw [← z, upd_ne hb, e] at hl
      cases hl
    rw [upd_ne hbl, upd_ne hb]; exact e
theorem frz_at {H : Hp} {t l : Addr} {o : Obj} {m : List (Key × V)} {u : HO} (hl : upd H t (.frz o (.dK m)) l = none) : upd (upd H t (.frz o (.dK m))) l u t = some (.frz o (.dK m)) := by
  have tl : t ≠ l := fun z => by rw [← z, upd_same] at hl; cases hl
  rw [upd_ne tl, upd_same]
/-- the first from lo on whose times are greater -/
def FR (ps rs : List Pr) (lo : Nat) (x : V) : Prop := (x = .non ∧ ∀ k p, lo ≤ k → ps[k]? = some p → ¬ tm rs p.1 < p.2) ∨ ∃ i p, lo ≤ i ∧ ps[i]? = some p ∧ tm rs p.1 < p.2 ∧ (∀ k r, lo ≤ k → k < i → ps[k]? = some r → ¬ tm rs r.1 < r.2) ∧ x = .str p.1
theorem fr_on {ps rs : List Pr} {k : Nat} {p : Pr} (hp : ps[k]? = some p) (h : tm rs p.1 < p.2) : FR ps rs k (.str p.1) := .inr ⟨k, p, Nat.le_refl _, hp, h, fun j r h1 h2 => absurd h1 (by omega), rfl⟩
theorem fr_off {ps rs : List Pr} {k : Nat} {p : Pr} {x : V} (hp : ps[k]? = some p) (h : ¬ tm rs p.1 < p.2) (g : FR ps rs (k + 1) x) : FR ps rs k x := by
  have one : ∀ r, ps[k]? = some r → ¬ tm rs r.1 < r.2 := fun r hr => by rw [hp] at hr; cases hr; exact h
  rcases g with ⟨e, g⟩ | ⟨i, q, h1, h2, h3, h4, e⟩
  · refine .inl ⟨e, fun j r hj hr => ?_⟩
    by_cases z : j = k
    · subst z; exact one r hr
    · exact g j r (by omega) hr
  · refine .inr ⟨i, q, by omega, h2, h3, fun j r hj hji hr => ?_, e⟩
    by_cases z : j = k
    · subst z; exact one r hr
    · exact h4 j r (by omega) hji hr
def spFirst : Sp := fun vs H Q _ => ∃ (v u : V) (c d : Int) (ps rs : List Pr), vs = [v, u] ∧ Rep H (lenDv c ps) v ∧ Rep H (lenDv d rs) u ∧ Canon ps ∧ Canon rs ∧ ps.length ≤ 20 ∧ rs.length ≤ 20 ∧ ∀ (H' : Hp) (x : V), Same H H' → FR ps rs 0 x → Q x H'
section
variable {P : Program} {w : World} {K : PySem.W.Frag} {mg : Str → Option Value} {base : Heap}
/-- both parts behind one another -/
theorem cat_parts {H : Hp} {a1 b1 : Addr} {us ws : List V} {ps rs : List Pr} {Q : VK} (ha1 : H a1 = some (.tup us)) (hb1 : H b1 = some (.tup ws)) (ru : Reps H (partsDv ps) us) (rw' : Reps H (partsDv rs) ws) (l1 : ps.length ≤ 20) (l2 : rs.length ≤ 20)
    (fin : ∀ (H1 : Hp) (x : Addr) (xs : List V), Same H H1 → H1 x = some (.tup xs) → Reps H1 (partsDv (ps ++ rs)) xs → xs.length = (ps ++ rs).length → Q (.ref x) H1) : rCatA K (.ref a1) (.ref b1) H Q := by
  have lu : us.length = ps.length := by have := ru.length; rwa [List.length_map] at this
  have lw : ws.length = rs.length := by have := rw'.length; rwa [List.length_map] at this
  refine ⟨a1, b1, us, ws, rfl, rfl, SqT.of ha1, SqT.of hb1, by rw [lu, lw, sizeLine_eq]; omega, fun e => ?_, fun e => ?_, fun p hp => ?_⟩
  · have e1 : ps = [] := List.eq_nil_of_length_eq_zero (by rw [← lu, e]; rfl)
    subst e1
    exact fin H b1 ws (Same.refl _) hb1 rw' lw
  · have e1 : rs = [] := List.eq_nil_of_length_eq_zero (by rw [← lw, e]; rfl)
    subst e1
    exact fin H a1 us (Same.refl _) ha1 (by rw [List.append_nil]; exact ru) (by rw [List.append_nil]; exact lu)
  · have s1 : Same H (upd H p (.tup (us ++ ws))) := same_new hp _
    have e : partsDv (ps ++ rs) = partsDv ps ++ partsDv rs := List.map_append
    exact fin _ p (us ++ ws) s1 upd_same (by rw [e]; exact Reps.append (ru.mono s1) (rw'.mono s1)) (by rw [List.length_append, List.length_append, lu, lw])
theorem sc_first : FnScope ["_law_a", "_law_b", "_law_found", "_law_name", "_law_many"] ["_law_a", "_law_b"] (defScope s_first) := ⟨rfl, rfl, rfl, by decide +kernel, rfl, by decide +kernel, by decide +kernel⟩
theorem ok_first {f : Addr} {fd : FuncData} (F : Fun K "_law_first" "_law_first" s_first f fd) (T : Txt K mg) : FnOk P w K mg base CX0 1 f fd ["_law_a", "_law_b"] spFirst := by
  have nd : (["_law_a", "_law_b", "_law_found", "_law_name", "_law_many"] : List Str).Nodup := sc_first.nd
  refine F.ok sc_first (fun vs H Q E h => ?_) (fun cdv A outer s H vs Q E hr h => ?_)
  · obtain ⟨v, u, c, d, ps, rs, rfl, _⟩ := h
    rfl
  obtain ⟨v, u, c, d, ps, rs, rfl, R1, R2, C1, C2, l1, l2, q⟩ := h
  have hu := hu_of hr
  obtain ⟨a, a1, us, rfl, ha, ha1, ru, lu⟩ := len_inv R1
  obtain ⟨b, b1, ws, rfl, hb, hb1, rw', lw⟩ := len_inv R2
  obtain ⟨ys, ey, hy, ndy, eyd⟩ := dict_parts rw' (names_nodup C2.pw)
  refine ⟨_, (@pss_cons _ _ _ _ _ (@ps_set _ _ (2) _ _ _ _ nd rfl (Or.inl rfl) (@pe_non _ _ _) (by rfl) (by first | exact .inl rfl | exact .inr rfl | assumption)) (@pss_cons _ _ _ _ _ (@ps_for _ _ _ _ _ _ _ _ PassesOwn.never rfl (@pi_rev _ _ _ _ _ _ rfl T.reversed (@pa_cons _ _ _ _ _ (@pe_ix _ _ _ _ _ _ _ ix_tup (@pv _ 0 _ _ (by rfl) (by first | exact Or.inl rfl | exact Or.inr (Or.inl rfl) | exact Or.inr (Or.inr rfl)) (by decide) (by decide)) (@pe_int _ _ _ _) (fun _ _ => rfl)) (@pa_nil _) (by rfl)) (by rfl)) (@pg_tup _ _ _ _ _ _ rfl (@pgs_cons _ _ _ _ _ (@pg_name _ _ (3) _ nd rfl (Or.inl rfl) (by first | exact .inl rfl | exact .inr rfl | assumption)) (@pgs_cons _ _ _ _ _ (@pg_name _ _ (4) _ nd rfl (Or.inl rfl) (by first | exact .inl rfl | exact .inr rfl | assumption)) (@pgs_nil _) (by rfl)) (by rfl)) (by rfl) (by rfl)) (@pss_one _ _ _ (@ps_if _ _ _ _ _ _ _ _ (@pt_cmpR _ _ _ _ _ _ _ _ op_gt (@pv _ 4 _ _ (by rfl) (by first | exact Or.inl rfl | exact Or.inr (Or.inl rfl) | exact Or.inr (Or.inr rfl)) (by decide) (by decide)) (@pe_dget2 _ _ _ _ _ _ _ _ _ hu (@pe_callTy _ _ _ _ _ _ _ _ _ (call_dictP rfl) rfl T.dict (by decide +kernel) (@pa_cons _ _ _ _ _ (@pe_ix _ _ _ _ _ _ _ ix_tup (@pv _ 1 _ _ (by rfl) (by first | exact Or.inl rfl | exact Or.inr (Or.inl rfl) | exact Or.inr (Or.inr rfl)) (by decide) (by decide)) (@pe_int _ _ _ _) (fun _ _ => rfl)) (@pa_nil _) (by rfl)) (by decide) (by decide) (by rfl) (by rfl)) (@pv _ 3 _ _ (by rfl) (by first | exact Or.inl rfl | exact Or.inr (Or.inl rfl) | exact Or.inr (Or.inr rfl)) (by decide) (by decide)) (@pe_int _ _ _ _) ⟨rfl, rfl, rfl, rfl⟩) (nomark _)) (@pss_one _ _ _ (@ps_set _ _ (2) _ _ _ _ nd rfl (Or.inl rfl) (@pv _ 3 _ _ (by rfl) (by first | exact Or.inl rfl | exact Or.inr (Or.inl rfl) | exact Or.inr (Or.inr rfl)) (by decide) (by decide)) (by rfl) (by first | exact .inl rfl | exact .inr rfl | assumption))) (@pss_nil _))) (by intro _; rfl)) (@pss_one _ _ _ (@ps_ret _ _ _ _ (@pv _ 2 _ _ (by rfl) (by first | exact Or.inl rfl | exact Or.inr (Or.inl rfl) | exact Or.inr (Or.inr rfl)) (by decide) (by decide)))))), ?_⟩
  refine ⟨_, rfl, a, _, 1, .ref a1, rfl, rfl, SqT.of ha, atI_nat (j := 1) rfl, a1, us, rfl, SqT.of ha1, ?_⟩
  refine for_rev (xs := us) (fun i σ H' => ∃ (o1 o2 : Option V) (x : V), σ = [some (.ref a), some (.ref b), some x, o1, o2] ∧ Same H H' ∧ FR ps rs (ps.length - i) x) ⟨_, _, .non, rfl, Same.refl _, .inl ⟨rfl, fun k p hk hp => absurd (List.getElem?_eq_some_iff.mp hp).1 (by omega)⟩⟩ (fun i σ H' _ ⟨_, _, _, _, sx, _⟩ => SqT.of (sx _ _ ha1)) ?T1 ?_
  case T1 =>
    rintro i y σ H2 hyx hi ⟨o1, o2, x, rfl, s2, hF⟩
    obtain ⟨p, e, hp, rfl, he⟩ := part_at ru hyx
    rw [lu] at hp hi
    have e1 : ps.length - (i + 1) = ps.length - 1 - i := by omega
    have e2 : ps.length - i = ps.length - 1 - i + 1 := by omega
    refine ⟨e, _, rfl, SqT.of (s2 _ _ he), rfl, _, _, rfl, _, _, rfl, rfl, ?_⟩
    refine ⟨_, rfl, _, rfl, b, _, 1, .ref b1, rfl, rfl, SqT.of (s2 _ _ hb), atI_nat (j := 1) rfl, b1, ys, rfl, by rw [s2 _ _ hb1, ey], fun p hp => s2 _ _ (hy p hp), ndy, fun g hg => ?_⟩
    rw [eyd]
    have s3 := s2.trans (same_new hg (.dK (dk rs)))
    have g3 : upd H2 g (.dK (dk rs)) g = some (.dK (dk rs)) := upd_same
    generalize upd H2 g (.dK (dk rs)) = H3 at s3 g3 ⊢
    refine ⟨g, rfl, .inl ⟨_, .inl g3⟩, _, rfl, _, DGet.k (k := Sum.inr p.1) g3, p.2, tm rs p.1, rfl, dk_tm _ _, _, rfl, ite2 (fun h => ?_) (fun h => ?_)⟩
    · exact ⟨_, rfl, _, _, _, rfl, s3, by rw [e1]; exact fr_on hp (of_decide_eq_true h)⟩
    · exact ⟨_, _, x, rfl, s3, by rw [e1]; exact fr_off hp (fun z => h (decide_eq_true z)) (by rw [← e2]; exact hF)⟩
  rintro σ H2 ⟨o1, o2, x, rfl, s2, hF⟩
  rw [lu, Nat.sub_self] at hF
  exact ⟨_, rfl, q H2 x s2 hF⟩
end
end K06

set_option maxHeartbeats 1000000
namespace K06
open PySem L2
abbrev s_right : Stmt := top 14
/-- a test of two, the second of which doesn't hold -/
theorem and_go {t1 t2 : TT} {σ : St} {H : Hp} {Q : Bool → Hp → Prop} (q : ∀ H', Same H H' → Q false H') (f : (∀ H', Same H H' → Q false H') → tAnd t1 t2 σ H Q) : tAnd t1 t2 σ H Q := f q
theorem gnm6 {i : Nat} {x : V} {σ : St} {H : Hp} {N : St → Hp → Prop} (h : N (σ.set i (some x)) H) : gName i x σ H N := h
theorem txs_ext {xs ys : List Str} (h1 : xs.Pairwise txLt) (h2 : ys.Pairwise txLt) (p : xs.Perm ys) : xs = ys := List.Perm.eq_of_pairwise (fun a b _ _ h g => absurd h (List.lt_asymm g)) h1 h2 p
theorem dget {H : Hp} {t : Addr} {kvs : List Pr} {x : Str} (h : H t = some (.dK (dk kvs))) (hx : x ∈ kvs.map (·.1)) : DGet H t (.str x) (some (.int (tm kvs x))) := by rw [← valV_dk hx]; exact DGet.k (k := Sum.inr x) h
/-- what exceeding answers -/
def ExcV (c d : Int) (ps rs kvs : List Pr) : Prop := (d < c ∧ ∀ y, tm kvs y = 0) ∨ (¬ d < c ∧ ∃ i p, ps[i]? = some p ∧ tm rs p.1 < p.2 ∧ (∀ r ∈ ps.take i, ¬ tm rs r.1 < r.2) ∧ ∀ y, tm kvs y = if p.1 = y then (d - c) / (p.2 - tm rs p.1) + 1 else 0)
def ExcR (c d : Int) (ps rs : List Pr) (H H' : Hp) (x : V) : Prop := (x = .non ∧ ¬ Exc c d ps rs) ∨ ∃ (t : Addr) (kvs : List Pr), x = .ref t ∧ H t = none ∧ H' t = some (.dK (dk kvs)) ∧ Keys kvs ps rs ∧ ExcV c d ps rs kvs
def spExc2 : Sp := fun vs H Q _ => ∃ (v u : V) (c d : Int) (ps rs : List Pr), vs = [v, u] ∧ Rep H (lenDv c ps) v ∧ Rep H (lenDv d rs) u ∧ Canon ps ∧ Canon rs ∧ ps.length ≤ 20 ∧ rs.length ≤ 20 ∧ (∀ p ∈ ps, p.2 < 10 ^ 60) ∧ ∀ (H' : Hp) (x : V), Same H H' → ExcR c d ps rs H H' x → Q x H'
theorem exc_of (vs : List V) (H : Hp) (Q : VK) (E : XK) (h : spExc2 vs H Q E) : spExc vs H Q E := by
  obtain ⟨v, u, c, d, ps, rs, rfl, R1, R2, C1, C2, l1, l2, hB, q⟩ := h
  exact ⟨v, u, c, d, ps, rs, rfl, R1, R2, C1, C2, l1, l2, hB, fun h H' t kvs s n ht k z => q H' _ s (.inr ⟨t, kvs, rfl, n, ht, k, .inl ⟨h, z⟩⟩), fun h i p hp hx hn H' t kvs s n ht k z => q H' _ s (.inr ⟨t, kvs, rfl, n, ht, k, .inr ⟨h, i, p, hp, hx, hn, z⟩⟩), fun h H' s => q H' _ s (.inl ⟨rfl, h⟩)⟩
theorem take_no {ps rs : List Pr} {i : Nat} (h : ∀ r ∈ ps.take i, ¬ tm rs r.1 < r.2) {k : Nat} {r : Pr} (hk : k < i) (hr : ps[k]? = some r) : ¬ tm rs r.1 < r.2 := h r (List.mem_iff_getElem?.mpr ⟨k, by rw [List.getElem?_take, if_pos hk]; exact hr⟩)
/-- the first is the one that is told -/
theorem fr_same {ps rs : List Pr} {x : V} {i : Nat} {p : Pr} (h : FR ps rs 0 x) (hp : ps[i]? = some p) (g : tm rs p.1 < p.2) (hn : ∀ r ∈ ps.take i, ¬ tm rs r.1 < r.2) : x = .str p.1 := by
  rcases h with ⟨_, h⟩ | ⟨j, q, _, h2, h3, h4, e⟩
  · exact absurd g (h i p (Nat.zero_le _) hp)
  · rcases Nat.lt_trichotomy i j with z | z | z
    · exact absurd g (h4 i p (Nat.zero_le _) z hp)
    · subst z; rw [hp] at h2; cases h2; exact e
    · exact absurd h3 (take_no hn z h2)
theorem exc_tm {c d : Int} {ps rs k1 k2 : List Pr} (h1 : ExcV c d ps rs k1) (h2 : ExcV c d ps rs k2) (y : Str) : tm k1 y = tm k2 y := by
  rcases h1 with ⟨a, h1⟩ | ⟨a, i, p, b1, b2, b3, h1⟩ <;> rcases h2 with ⟨a', h2⟩ | ⟨a', j, r, e1, e2, e3, h2⟩
  · rw [h1, h2]
  · exact absurd a a'
  · exact absurd a' a
  · have e : i = j := by
      rcases Nat.lt_trichotomy i j with z | z | z
      · exact absurd b2 (take_no e3 z b1)
      · exact z
      · exact absurd e2 (take_no b3 z e1)
    subst e
    rw [b1] at e1
    cases e1
    rw [h1, h2]
theorem exc_worth {c d : Int} {ps rs kvs : List Pr} (C1 : Canon ps) (C2 : Canon rs) (h : ExcV c d ps rs kvs) : d + W (tm kvs) rs < c + W (tm kvs) ps := by
  rcases h with ⟨h, z⟩ | ⟨h, i, p, hp, hx, _, z⟩
  · rw [W_nil z, W_nil z]; omega
  · have g0 : 0 < p.2 - tm rs p.1 := by omega
    rw [W_if z (names_nodup C1.pw), W_if z (names_nodup C2.pw), tm_mem (names_nodup C1.pw) (List.mem_of_getElem? hp)]
    have h1 := Int.lt_ediv_add_one_mul_self (d - c) g0
    generalize (d - c) / (p.2 - tm rs p.1) + 1 = n at h1 ⊢
    rw [Int.mul_sub, Int.mul_comm n, Int.mul_comm n] at h1
    omega
theorem exc_01 {c d : Int} {ps rs kvs : List Pr} (hc : 0 ≤ c) (hd : d ≤ 65 * 10 ^ 58) (h : ExcV c d ps rs kvs) (y : Str) : 0 ≤ tm kvs y ∧ tm kvs y ≤ 131 * 10 ^ 58 := by
  rcases h with ⟨h, z⟩ | ⟨h, i, p, hp, hx, _, z⟩
  · rw [z]; omega
  · have n0 : 0 ≤ (d - c) / (p.2 - tm rs p.1) := Int.ediv_nonneg (by omega) (by omega)
    have n1 : (d - c) / (p.2 - tm rs p.1) ≤ d - c := Int.ediv_le_self _ (by omega)
    rw [z]; split <;> omega
theorem one_tm (x : Str) (n : Int) (y : Str) : tm [(x, n)] y = if x = y then n else 0 := rfl
theorem few_le {c d n : Int} {ps rs : List Pr} {p : Pr} (C1 : Canon ps) (C2 : Canon rs) (hp : p ∈ ps) (hx : tm rs p.1 < p.2) (e : n = (d - c) / (p.2 - tm rs p.1)) : c + W (tm [(p.1, n)]) ps ≤ d + W (tm [(p.1, n)]) rs := by
  have g0 : 0 < p.2 - tm rs p.1 := by omega
  rw [W_if (one_tm p.1 n) (names_nodup C1.pw), W_if (one_tm p.1 n) (names_nodup C2.pw), tm_mem (names_nodup C1.pw) hp]
  have h1 := Int.ediv_mul_le (d - c) (Int.ne_of_gt g0)
  rw [← e, Int.mul_sub, Int.mul_comm n, Int.mul_comm n] at h1
  omega
def spRight : Sp := fun vs H Q _ => ∃ (v u : V) (c d : Int) (ps rs : List Pr), vs = [v, u] ∧ Rep H (lenDv c ps) v ∧ Rep H (lenDv d rs) u ∧ Canon ps ∧ Canon rs ∧ ps.length ≤ 5 ∧ rs.length ≤ 5 ∧ 0 ≤ c ∧ c ≤ 65 * 10 ^ 58 ∧ 0 ≤ d ∧ d ≤ 65 * 10 ^ 58 ∧ (∀ p ∈ ps, p.2 ≤ 2 * 10 ^ 58) ∧ (∀ p ∈ rs, p.2 ≤ 2 * 10 ^ 58) ∧ ∀ H', Same H H' → Q (.bl true) H'
section
variable {P : Program} {w : World} {K : PySem.W.Frag} {mg : Str → Option Value} {base : Heap}
theorem mo {ps kvs : List Pr} (C : Canon ps) (hB : ∀ p ∈ ps, p.2 ≤ 2 * 10 ^ 58) (hk : ∀ y, 0 ≤ tm kvs y ∧ tm kvs y ≤ 131 * 10 ^ 58) : ∀ p ∈ ps, IntMulOk p.2 (tm kvs p.1) := fun p hp =>
  mul_big (by have := C.ge p hp; omega) (by have := hB p hp; omega) (by have := hk p.1; omega) (by have := hk p.1; omega)
theorem sc_right : FnScope ["_law_a", "_law_b", "_law_found", "_law_first_here", "_law_names_here", "_law_fewer"] ["_law_a", "_law_b"] (defScope s_right) := ⟨rfl, rfl, rfl, by decide +kernel, rfl, by decide +kernel, by decide +kernel⟩
theorem ok_right {f : Addr} {fd : FuncData} {k0 : Nat} (F : Fun K "_law_right" "_law_right" s_right f fd) (T : Txt K mg) (Dexceeding : Def P w K mg base k0 "exceeding" ["a", "b"] spExc2) (D_law_first : Def P w K mg base k0 "_law_first" ["_law_a", "_law_b"] spFirst) (D_law_worth : Def P w K mg base k0 "_law_worth" ["_law_a", "_law_numbers"] spWorth) :
    FnOk P w K mg base CX0 (k0 + 1) f fd ["_law_a", "_law_b"] spRight := by
  have nd : (["_law_a", "_law_b", "_law_found", "_law_first_here", "_law_names_here", "_law_fewer"] : List Str).Nodup := sc_right.nd
  refine F.ok sc_right (fun vs H Q E h => ?_) (fun cdv A outer s H vs Q E hr h => ?_)
  · obtain ⟨v, u, c, d, ps, rs, rfl, _⟩ := h
    rfl
  obtain ⟨v, u, c, d, ps, rs, rfl, R1, R2, C1, C2, l1, l2, hc, hcB, hd, hdB, B1, B2, q⟩ := h
  have hu := hu_of hr
  have huL : (A.deeper (PyProof.Rows.envOfC "_law_right" (defScope s_right) s.heap.objs.size f cdv)).units < cLine := Nat.lt_of_le_of_lt (Nat.le_succ _) (hu_of hr)
  obtain ⟨a, a1, us, rfl, ha, ha1, ru, lu⟩ := len_inv R1
  obtain ⟨b, b1, ws, rfl, hb, hb1, rw', lw⟩ := len_inv R2
  refine ⟨_, (@pss_cons _ _ _ _ _ (@ps_set _ _ (2) _ _ _ _ nd rfl (Or.inr rfl) (@pe_def _ _ _ _ _ _ _ _ _ _ Dexceeding hr rfl (@pa_cons _ _ _ _ _ (@pv _ 0 _ _ (by rfl) (by first | exact Or.inl rfl | exact Or.inr (Or.inl rfl) | exact Or.inr (Or.inr rfl)) (by decide) (by decide)) (@pa_cons _ _ _ _ _ (@pv _ 1 _ _ (by rfl) (by first | exact Or.inl rfl | exact Or.inr (Or.inl rfl) | exact Or.inr (Or.inr rfl)) (by decide) (by decide)) (@pa_nil _) (by rfl)) (by rfl)) (by decide) (by rfl) (by rfl)) (by rfl) (by first | exact .inl rfl | exact .inr rfl | assumption)) (@pss_cons _ _ _ _ _ (@ps_set _ _ (3) _ _ _ _ nd rfl (Or.inr rfl) (@pe_def _ _ _ _ _ _ _ _ _ _ D_law_first hr rfl (@pa_cons _ _ _ _ _ (@pv _ 0 _ _ (by rfl) (by first | exact Or.inl rfl | exact Or.inr (Or.inl rfl) | exact Or.inr (Or.inr rfl)) (by decide) (by decide)) (@pa_cons _ _ _ _ _ (@pv _ 1 _ _ (by rfl) (by first | exact Or.inl rfl | exact Or.inr (Or.inl rfl) | exact Or.inr (Or.inr rfl)) (by decide) (by decide)) (@pa_nil _) (by rfl)) (by rfl)) (by decide) (by rfl) (by rfl)) (by rfl) (by first | exact .inl rfl | exact .inr rfl | assumption)) (@pss_cons _ _ _ _ _ (@ps_if _ _ _ _ _ _ _ _ (@PW.pt _ _ _ (@pw_and _ _ _ _ _ _ _ (@pt_cmpR _ _ _ _ _ _ _ _ op_le (@pe_ix _ _ _ _ _ _ _ ix_tup (@pv _ 0 _ _ (by rfl) (by first | exact Or.inl rfl | exact Or.inr (Or.inl rfl) | exact Or.inr (Or.inr rfl)) (by decide) (by decide)) (@pe_int _ _ _ _) (fun _ _ => rfl)) (@pe_ix _ _ _ _ _ _ _ ix_tup (@pv _ 1 _ _ (by rfl) (by first | exact Or.inl rfl | exact Or.inr (Or.inl rfl) | exact Or.inr (Or.inr rfl)) (by decide) (by decide)) (@pe_int _ _ _ _) (fun _ _ => rfl)) (nomark _)) (@pw_and1 _ _ _ _ (@pt_cmpR _ _ _ _ _ _ _ _ op_isN (@pv _ 3 _ _ (by rfl) (by first | exact Or.inl rfl | exact Or.inr (Or.inl rfl) | exact Or.inr (Or.inr rfl)) (by decide) (by decide)) (@pe_non _ _ _) (nomark _))))) (@pss_one _ _ _ (@ps_ret _ _ _ _ (@pe_cmpR _ _ _ _ _ _ _ _ op_isN (@pv _ 2 _ _ (by rfl) (by first | exact Or.inl rfl | exact Or.inr (Or.inl rfl) | exact Or.inr (Or.inr rfl)) (by decide) (by decide)) (@pe_non _ _ _) (nomark _)))) (@pss_nil _)) (@pss_cons _ _ _ _ _ (@ps_set _ _ (4) _ _ _ _ nd rfl (Or.inl rfl) (@pe_callB _ _ _ _ _ _ _ _ _ (call_sortedS rfl) rfl T.sorted (by decide +kernel) (@pa_cons _ _ _ _ _ (@pe_callTy _ _ _ _ _ _ _ _ _ (call_setS rfl) rfl T.set (by decide +kernel) (@pa_cons _ _ _ _ _ (@pe_lc _ _ (["_law_name", "_law_many"]) ([]) _ _ _ _ _ _ _ _ _ (@pi_tup _ _ _ _ (@pe_op _ _ _ _ _ _ _ _ op_catA (@pe_ix _ _ _ _ _ _ _ ix_tup (@pv _ 0 _ _ (by rfl) (by first | exact Or.inl rfl | exact Or.inr (Or.inl rfl) | exact Or.inr (Or.inr rfl)) (by decide) (by decide)) (@pe_int _ _ _ _) (fun _ _ => rfl)) (@pe_ix _ _ _ _ _ _ _ ix_tup (@pv _ 1 _ _ (by rfl) (by first | exact Or.inl rfl | exact Or.inr (Or.inl rfl) | exact Or.inr (Or.inr rfl)) (by decide) (by decide)) (@pe_int _ _ _ _) (fun _ _ => rfl)))) (.of rfl) rfl (fun _ _ _ => pg_tup rfl (@pgs_cons _ _ _ _ _ (@pg_name _ _ (0) _ (lc_nd (l := ["_law_name", "_law_many"]) ((by decide +kernel)) rfl) rfl (Or.inl rfl) (by first | exact .inl rfl | exact .inr rfl | assumption)) (@pgs_cons _ _ _ _ _ (@pg_name _ _ (1) _ (lc_nd (l := ["_law_name", "_law_many"]) ((by decide +kernel)) rfl) rfl (Or.inl rfl) (by first | exact .inl rfl | exact .inr rfl | assumption)) (@pgs_nil _) (by rfl)) (by rfl))) (gw_two (by decide) (by decide)) (fun _ _ _ => (@pif_nil _)) (fun _ _ _ => (@pv _ 0 _ _ (by rfl) (by first | exact Or.inl rfl | exact Or.inr (Or.inl rfl) | exact Or.inr (Or.inr rfl)) (by decide) (by decide))) (by intro _; rfl)) (@pa_nil _) (by rfl)) (by decide) (by decide) (by rfl) (by rfl)) (@pa_nil _) (by rfl)) (by decide) (by decide) (by rfl) (by rfl)) (by rfl) (by first | exact .inl rfl | exact .inr rfl | assumption)) (@pss_cons _ _ _ _ _ (@ps_if _ _ _ _ _ _ _ _ (@PW.pt _ _ _ (@pw_or _ _ _ _ _ _ _ (@pt_not _ _ _ _ (@pt_val _ _ _ (@pe_callB _ _ _ _ _ _ _ _ _ call_isi rfl T.isinstance (by decide +kernel) (@pa_cons _ _ _ _ _ (@pv _ 2 _ _ (by rfl) (by first | exact Or.inl rfl | exact Or.inr (Or.inl rfl) | exact Or.inr (Or.inr rfl)) (by decide) (by decide)) (@pa_cons _ _ _ _ _ (@pe_bltn _ _ (.ty "dict") _ _ rfl T.dict (by decide +kernel) rfl (by decide) (by decide)) (@pa_nil _) (by rfl)) (by rfl)) (by decide) (by decide) (by rfl) (by rfl)) (by intro _; rfl))) (@pw_or1 _ _ _ _ (@pt_cmpR _ _ _ _ _ _ _ _ (op_neL huL) (@pe_callB _ _ _ _ _ _ _ _ _ (call_sortedD rfl) rfl T.sorted (by decide +kernel) (@pa_cons _ _ _ _ _ (@pv _ 2 _ _ (by rfl) (by first | exact Or.inl rfl | exact Or.inr (Or.inl rfl) | exact Or.inr (Or.inr rfl)) (by decide) (by decide)) (@pa_nil _) (by rfl)) (by decide) (by decide) (by rfl) (by rfl)) (@pv _ 4 _ _ (by rfl) (by first | exact Or.inl rfl | exact Or.inr (Or.inl rfl) | exact Or.inr (Or.inr rfl)) (by decide) (by decide)) (nomark _))))) (@pss_one _ _ _ (@ps_ret _ _ _ _ (@pe_bl _ _ _ _))) (@pss_nil _)) (@pss_cons _ _ _ _ _ (@ps_if _ _ _ _ _ _ _ _ (@pt_not _ _ _ _ (@pt_val _ _ _ (@pe_thaw _ _ _ (@pe_callB _ _ _ _ _ _ _ _ _ (call_all rfl) rfl T.all (by decide +kernel) (@pa_cons _ _ _ _ _ (@pe_lc _ _ (["_law_number"]) ([]) _ _ _ _ _ _ _ _ _ (@pi_vals _ _ _ _ _ _ (@pv _ 2 _ _ (by rfl) (by first | exact Or.inl rfl | exact Or.inr (Or.inl rfl) | exact Or.inr (Or.inr rfl)) (by decide) (by decide)) (by rfl) (by rfl)) (.of rfl) rfl (fun _ _ _ => pg_name (i := 0) (lc_nd (l := ["_law_number"]) ((by decide +kernel)) rfl) rfl (Or.inl rfl)) (gw_name (by decide)) (fun _ _ _ => (@pif_nil _)) (fun _ _ _ => (@pe_and _ _ _ _ _ _ _ (@pe_callB _ _ _ _ _ _ _ _ _ (isiK K rfl) rfl T.isinstance (by decide +kernel) (@pa_cons _ _ _ _ _ (@pv _ 0 _ _ (by rfl) (by first | exact Or.inl rfl | exact Or.inr (Or.inl rfl) | exact Or.inr (Or.inr rfl)) (by decide) (by decide)) (@pa_cons _ _ _ _ _ (@pe_bltn _ _ (.ty "int") _ _ rfl T.int (by decide +kernel) rfl (by decide) (by decide)) (@pa_nil _) (by rfl)) (by rfl)) (by decide) (by decide) (by rfl) (by rfl)) (@pe_one _ _ _ _ _ (@pe_not _ _ _ _ (@pe_callB _ _ _ _ _ _ _ _ _ (isiK K rfl) rfl T.isinstance (by decide +kernel) (@pa_cons _ _ _ _ _ (@pv _ 0 _ _ (by rfl) (by first | exact Or.inl rfl | exact Or.inr (Or.inl rfl) | exact Or.inr (Or.inr rfl)) (by decide) (by decide)) (@pa_cons _ _ _ _ _ (@pe_bltn _ _ (.ty "bool") _ _ rfl T.bool (by decide +kernel) rfl (by decide) (by decide)) (@pa_nil _) (by rfl)) (by rfl)) (by decide) (by decide) (by rfl) (by rfl)))))) (by intro _; rfl)) (@pa_nil _) (by rfl)) (by decide) (by decide) (by rfl) (by rfl))) (by intro _; rfl))) (@pss_one _ _ _ (@ps_ret _ _ _ _ (@pe_bl _ _ _ _))) (@pss_nil _)) (@pss_cons _ _ _ _ _ (@ps_if _ _ _ _ _ _ _ _ (@pt_not _ _ _ _ (@pt_cmpR _ _ _ _ _ _ _ _ op_gt (@pe_def _ _ _ _ _ _ _ _ _ _ D_law_worth hr rfl (@pa_cons _ _ _ _ _ (@pv _ 0 _ _ (by rfl) (by first | exact Or.inl rfl | exact Or.inr (Or.inl rfl) | exact Or.inr (Or.inr rfl)) (by decide) (by decide)) (@pa_cons _ _ _ _ _ (@pv _ 2 _ _ (by rfl) (by first | exact Or.inl rfl | exact Or.inr (Or.inl rfl) | exact Or.inr (Or.inr rfl)) (by decide) (by decide)) (@pa_nil _) (by rfl)) (by rfl)) (by decide) (by rfl) (by rfl)) (@pe_def _ _ _ _ _ _ _ _ _ _ D_law_worth hr rfl (@pa_cons _ _ _ _ _ (@pv _ 1 _ _ (by rfl) (by first | exact Or.inl rfl | exact Or.inr (Or.inl rfl) | exact Or.inr (Or.inr rfl)) (by decide) (by decide)) (@pa_cons _ _ _ _ _ (@pv _ 2 _ _ (by rfl) (by first | exact Or.inl rfl | exact Or.inr (Or.inl rfl) | exact Or.inr (Or.inr rfl)) (by decide) (by decide)) (@pa_nil _) (by rfl)) (by rfl)) (by decide) (by rfl) (by rfl)) (nomark _))) (@pss_one _ _ _ (@ps_ret _ _ _ _ (@pe_bl _ _ _ _))) (@pss_nil _)) (@pss_cons _ _ _ _ _ (@ps_if _ _ _ _ _ _ _ _ (@pt_cmpR _ _ _ _ _ _ _ _ op_gt (@pe_ix _ _ _ _ _ _ _ ix_tup (@pv _ 0 _ _ (by rfl) (by first | exact Or.inl rfl | exact Or.inr (Or.inl rfl) | exact Or.inr (Or.inr rfl)) (by decide) (by decide)) (@pe_int _ _ _ _) (fun _ _ => rfl)) (@pe_ix _ _ _ _ _ _ _ ix_tup (@pv _ 1 _ _ (by rfl) (by first | exact Or.inl rfl | exact Or.inr (Or.inl rfl) | exact Or.inr (Or.inr rfl)) (by decide) (by decide)) (@pe_int _ _ _ _) (fun _ _ => rfl)) (nomark _)) (@pss_one _ _ _ (@ps_ret _ _ _ _ (@pe_callB _ _ _ _ _ _ _ _ _ (call_all rfl) rfl T.all (by decide +kernel) (@pa_cons _ _ _ _ _ (@pe_lc _ _ (["_law_name"]) ([2]) _ _ _ _ _ _ _ _ _ (@pi_list _ _ _ _ (@pv _ 4 _ _ (by rfl) (by first | exact Or.inl rfl | exact Or.inr (Or.inl rfl) | exact Or.inr (Or.inr rfl)) (by decide) (by decide))) (.of rfl) rfl (fun _ _ _ => pg_name (i := 0) (lc_nd (l := ["_law_name", "_law_found"]) ((by decide +kernel)) rfl) rfl (Or.inl rfl)) (gw_name (by decide)) (fun _ _ _ => (@pif_nil _)) (fun _ _ _ => (@pe_cmpR _ _ _ _ _ _ _ _ op_eq (@pe_dget _ _ _ _ _ _ hu (@pv _ 1 _ _ (by rfl) (by first | exact Or.inl rfl | exact Or.inr (Or.inl rfl) | exact Or.inr (Or.inr rfl)) (by decide) (by decide)) (@pv _ 0 _ _ (by rfl) (by first | exact Or.inl rfl | exact Or.inr (Or.inl rfl) | exact Or.inr (Or.inr rfl)) (by decide) (by decide)) (fun _ _ => rfl)) (@pe_int _ _ _ _) (nomark _))) (by intro _; rfl)) (@pa_nil _) (by rfl)) (by decide) (by decide) (by rfl) (by rfl)))) (@pss_nil _)) (@pss_cons _ _ _ _ _ (@ps_if _ _ _ _ _ _ _ _ (@pt_not _ _ _ _ (@pt_val _ _ _ (@pe_callB _ _ _ _ _ _ _ _ _ (call_all rfl) rfl T.all (by decide +kernel) (@pa_cons _ _ _ _ _ (@pe_lc _ _ (["_law_name"]) ([2, 3]) _ _ _ _ _ _ _ _ _ (@pi_list _ _ _ _ (@pv _ 4 _ _ (by rfl) (by first | exact Or.inl rfl | exact Or.inr (Or.inl rfl) | exact Or.inr (Or.inr rfl)) (by decide) (by decide))) (.of rfl) rfl (fun _ _ _ => pg_name (i := 0) (lc_nd (l := ["_law_name", "_law_found", "_law_first_here"]) ((by decide +kernel)) rfl) rfl (Or.inl rfl)) (gw_name (by decide)) (fun _ _ _ => pif_one (@pt_cmpR _ _ _ _ _ _ _ _ op_ne (@pv _ 0 _ _ (by rfl) (by first | exact Or.inl rfl | exact Or.inr (Or.inl rfl) | exact Or.inr (Or.inr rfl)) (by decide) (by decide)) (@pv _ 2 _ _ (by rfl) (by first | exact Or.inl rfl | exact Or.inr (Or.inl rfl) | exact Or.inr (Or.inr rfl)) (by decide) (by decide)) (nomark _))) (fun _ _ _ => (@pe_cmpR _ _ _ _ _ _ _ _ op_eq (@pe_dget _ _ _ _ _ _ hu (@pv _ 1 _ _ (by rfl) (by first | exact Or.inl rfl | exact Or.inr (Or.inl rfl) | exact Or.inr (Or.inr rfl)) (by decide) (by decide)) (@pv _ 0 _ _ (by rfl) (by first | exact Or.inl rfl | exact Or.inr (Or.inl rfl) | exact Or.inr (Or.inr rfl)) (by decide) (by decide)) (fun _ _ => rfl)) (@pe_int _ _ _ _) (nomark _))) (by intro _; rfl)) (@pa_nil _) (by rfl)) (by decide) (by decide) (by rfl) (by rfl)) (by intro _; rfl))) (@pss_one _ _ _ (@ps_ret _ _ _ _ (@pe_bl _ _ _ _))) (@pss_nil _)) (@pss_cons _ _ _ _ _ (@ps_set _ _ (5) _ _ _ _ nd rfl (Or.inl rfl) (@pe_disp _ _ _ _ _ (@pps_cons _ _ _ _ _ _ _ _ _ (@pv _ 3 _ _ (by rfl) (by first | exact Or.inl rfl | exact Or.inr (Or.inl rfl) | exact Or.inr (Or.inr rfl)) (by decide) (by decide)) (@pe_op _ _ _ _ _ _ _ _ op_sub (@pe_dget _ _ _ _ _ _ hu (@pv _ 2 _ _ (by rfl) (by first | exact Or.inl rfl | exact Or.inr (Or.inl rfl) | exact Or.inr (Or.inr rfl)) (by decide) (by decide)) (@pv _ 3 _ _ (by rfl) (by first | exact Or.inl rfl | exact Or.inr (Or.inl rfl) | exact Or.inr (Or.inr rfl)) (by decide) (by decide)) (fun _ _ => rfl)) (@pe_int _ _ _ _)) (@pps_nil _ _)) rfl rfl (by simp) (Nat.le_of_ble_eq_true rfl)) (by rfl) (by first | exact .inl rfl | exact .inr rfl | assumption)) (@pss_one _ _ _ (@ps_ret _ _ _ _ (@pe_and _ _ _ _ _ _ _ (@pe_cmpR _ _ _ _ _ _ _ _ op_gt (@pe_dget _ _ _ _ _ _ hu (@pv _ 2 _ _ (by rfl) (by first | exact Or.inl rfl | exact Or.inr (Or.inl rfl) | exact Or.inr (Or.inr rfl)) (by decide) (by decide)) (@pv _ 3 _ _ (by rfl) (by first | exact Or.inl rfl | exact Or.inr (Or.inl rfl) | exact Or.inr (Or.inr rfl)) (by decide) (by decide)) (fun _ _ => rfl)) (@pe_int _ _ _ _) (nomark _)) (@pe_one _ _ _ _ _ (@pe_cmpR _ _ _ _ _ _ _ _ op_le (@pe_def _ _ _ _ _ _ _ _ _ _ D_law_worth hr rfl (@pa_cons _ _ _ _ _ (@pv _ 0 _ _ (by rfl) (by first | exact Or.inl rfl | exact Or.inr (Or.inl rfl) | exact Or.inr (Or.inr rfl)) (by decide) (by decide)) (@pa_cons _ _ _ _ _ (@pv _ 5 _ _ (by rfl) (by first | exact Or.inl rfl | exact Or.inr (Or.inl rfl) | exact Or.inr (Or.inr rfl)) (by decide) (by decide)) (@pa_nil _) (by rfl)) (by rfl)) (by decide) (by rfl) (by rfl)) (@pe_def _ _ _ _ _ _ _ _ _ _ D_law_worth hr rfl (@pa_cons _ _ _ _ _ (@pv _ 1 _ _ (by rfl) (by first | exact Or.inl rfl | exact Or.inr (Or.inl rfl) | exact Or.inr (Or.inr rfl)) (by decide) (by decide)) (@pa_cons _ _ _ _ _ (@pv _ 5 _ _ (by rfl) (by first | exact Or.inl rfl | exact Or.inr (Or.inl rfl) | exact Or.inr (Or.inr rfl)) (by decide) (by decide)) (@pa_nil _) (by rfl)) (by rfl)) (by decide) (by rfl) (by rfl)) (nomark _)))))))))))))))), ?_⟩
  refine ⟨_, rfl, _, rfl, .ref a, .ref b, c, d, ps, rs, rfl, R1, R2, C1, C2, by omega, by omega, fun p hp => by have := B1 p hp; omega, fun H1 x1 s1 p1 => ?_⟩
  refine ⟨_, rfl, _, rfl, .ref a, .ref b, c, d, ps, rs, rfl, R1.mono s1, R2.mono s1, C1, C2, by omega, by omega, fun H2 x2 s2 p2 => ?_⟩
  have s02 := s1.trans s2
  rcases p1 with ⟨rfl, hE⟩ | ⟨t, kvs, rfl, n1, t1, k1, hV⟩
  · have hx2 : x2 = .non := by
      rcases p2 with ⟨e, _⟩ | ⟨j, r, _, h2, h3, _⟩
      · exact e
      · exact absurd (.inr ⟨r, List.mem_of_getElem? h2, h3⟩) hE
    subst hx2
    have hcd : c ≤ d := Int.not_lt.mp fun z => hE (.inl z)
    refine ⟨_, rfl, a, _, 0, .int c, rfl, rfl, SqT.of (s02 _ _ ha), atI_nat (j := 0) rfl, _, rfl, b, _, 0, .int d, rfl, rfl, SqT.of (s02 _ _ hb), atI_nat (j := 0) rfl, _, _, rfl, rfl, _, rfl, ite2 (fun _ => ?_) (fun h => absurd (decide_eq_true hcd) h)⟩
    exact ⟨_, rfl, rfl, _, rfl, iteT ⟨_, rfl, rfl, q _ s02⟩⟩
  refine gnm6 ?_
  dsimp only
  refine and_go (fun H3 s3 => ?_) fun q' => ?_
  rotate_left
  · refine ⟨_, rfl, a, _, 0, .int c, rfl, rfl, SqT.of (s02 _ _ ha), atI_nat (j := 0) rfl, _, rfl, b, _, 0, .int d, rfl, rfl, SqT.of (s02 _ _ hb), atI_nat (j := 0) rfl, _, _, rfl, rfl, _, rfl, ite2 (fun h => ?_) (fun h => q' _ (Same.refl _))⟩
    have hcd : c ≤ d := of_decide_eq_true h
    rcases hV with ⟨h1, _⟩ | ⟨_, i, p, hp, hx, hn, _⟩
    · omega
    · have e2 := fr_same p2 hp hx hn
      subst e2
      exact ⟨_, rfl, rfl, _, rfl, q' _ (Same.refl _)⟩
  refine iteF ?_
  have t3 := s3 _ _ (s2 _ _ t1)
  have s03 := s02.trans s3
  refine ⟨_, rfl, a, _, 1, .ref a1, rfl, rfl, SqT.of (s03 _ _ ha), atI_nat (j := 1) rfl, _, rfl, b, _, 1, .ref b1, rfl, rfl, SqT.of (s03 _ _ hb), atI_nat (j := 1) rfl, ?_⟩
  refine cat_parts (s03 _ _ ha1) (s03 _ _ hb1) (ru.mono s03) (rw'.mono s03) (by omega) (by omega) fun H4 g xs s4 hg rx lx => ?_
  have ly : (ps.map (·.1) ++ rs.map (·.1)).length ≤ 40 := by simp only [List.length_append, List.length_map]; omega
  have lx40 : xs.length ≤ 40 := by rw [lx, List.length_append]; omega
  refine ⟨g, rfl, ⟨xs, SqT.of hg⟩, lc_tup (xs := xs) (fun i ys H' => H' = H4 ∧ ys = ((ps ++ rs).take i).map fun p => V.str p.1) ⟨rfl, rfl⟩ (fun i ys H' _ p => by rw [p.1]; exact SqT.of hg) ?_ ?_⟩
  · rintro i ys H' y hy ⟨rfl, rfl⟩
    obtain ⟨p, e, hp, rfl, he⟩ := part_at rx hy
    have hi := (List.getElem?_eq_some_iff.mp hy).1
    refine turn_two he ⟨_, rfl, ?_, rfl, ?_⟩
    · rw [List.length_map, List.length_take, sizeLine_eq]; omega
    · rw [List.take_add_one, hp, List.map_append]; rfl
  rintro ys H' ⟨rfl, rfl⟩ l5 hl5
  rw [lx, List.take_length]
  have e5 : ((ps ++ rs).map fun p => V.str p.1) = (ps.map (·.1) ++ rs.map (·.1)).map V.str := by simp [List.map_append, List.map_map, Function.comp_def]
  rw [e5]
  have s5 := same_new hl5 (.lst ((ps.map (·.1) ++ rs.map (·.1)).map V.str))
  have h5 : upd H' l5 (.lst ((ps.map (·.1) ++ rs.map (·.1)).map V.str)) l5 = _ := upd_same
  have s35 := s4.trans s5
  generalize upd H' l5 (.lst ((ps.map (·.1) ++ rs.map (·.1)).map V.str)) = H5 at s5 h5 s35 ⊢
  refine ⟨l5, ps.map (·.1) ++ rs.map (·.1), rfl, SqL.of h5, by omega, fun S zs hS ndz mz lz => ?_⟩
  refine ⟨S, zs, rfl, upd_same, ndz, by omega, fun l qs hl pq pw => ?_⟩
  have lq : qs.length ≤ 40 := by rw [pq.length_eq]; omega
  generalize e6 : upd _ _ _ = H6
  have s36 : Same H3 H6 := by rw [← e6]; exact s35.trans ((same_new hS _).trans (same_new hl _))
  have h6 : H6 l = some (.lst (qs.map V.str)) := by rw [← e6]; exact upd_same
  clear e6
  have s06 := s03.trans s36
  have t6 := s36 _ _ t3
  have pk : (kvs.map (·.1)).Perm qs := (List.perm_ext_iff_of_nodup k1.1 (pq.nodup_iff.mpr ndz)).mpr fun x => by rw [k1.2.1, pq.mem_iff, mz]
  refine ⟨_, rfl, .ref t, _, _, _, rfl, .dK t6, kit_dict K, _, rfl, iteF ?_⟩
  have ed : dk kvs = (kvs.map fun p => (p.1, V.int p.2)).map fun p => ((Sum.inr p.1 : Key), p.2) := by unfold dk; rw [List.map_map]; rfl
  refine ⟨_, rfl, t, kvs.map fun p => (p.1, V.int p.2), rfl, by rw [t6, ed], by rw [List.length_map]; have := k1.2.2; omega, fun l7 q7 hl7 pq7 pw7 => ?_⟩
  have em : (kvs.map fun p => (p.1, V.int p.2)).map (·.1) = kvs.map (·.1) := by rw [List.map_map]; rfl
  rw [em] at pq7
  have e7 : q7 = qs := txs_ext pw7 pw (pq7.trans pk)
  subst e7
  have s7 := same_new hl7 (.lst (q7.map V.str))
  refine ⟨_, rfl, l7, l, q7, rfl, rfl, SqL.of upd_same, SqL.of (s7 _ _ h6), _, rfl, iteF ?_⟩
  have t7 := s7 _ _ t6
  have h7 := s7 _ _ h6
  have s07 := s06.trans s7
  generalize upd H6 l7 (.lst (q7.map V.str)) = H7 at s7 t7 h7 s07 ⊢
  refine ⟨_, rfl, t, _, rfl, t7, fun o => ?_⟩
  refine lc_vals (fun _ => .bl true) upd_same (fun i ys p hp ly => ?_) fun l8 hl8 => ?_
  · obtain ⟨r, hr', rfl⟩ : ∃ r : Pr, kvs[i]? = some r ∧ p = (Sum.inr r.1, .int r.2) := by
      unfold dk at hp
      rw [List.getElem?_map] at hp
      obtain ⟨r, a, b⟩ := Option.map_eq_some_iff.mp hp
      exact ⟨r, a, b.symm⟩
    have hi := (List.getElem?_eq_some_iff.mp hr').1
    have := k1.2.2
    exact turn_name ⟨_, rfl, _, _, _, _, rfl, .int r.2, kit_int K (.int r.2), _, rfl, iteT ⟨_, rfl, _, _, _, _, rfl, .int r.2, kit_bool K (.int r.2), _, rfl, by rw [ly, sizeLine_eq]; omega, rfl, rfl⟩⟩
  refine ⟨l8, (dk kvs).map fun _ => true, rfl, SqL.of (by rw [upd_same, List.map_map]; rfl), t, o, _, frz_at hl8, .inl n1, _, rfl, ?_⟩
  have s8 := same_thaw (u := .lst ((dk kvs).map fun p => V.bl true)) t7 hl8
  generalize upd (upd (upd H7 t (.frz o (.dK (dk kvs)))) l8 (.lst ((dk kvs).map fun p => V.bl true))) t (.dK (dk kvs)) = H8 at s8 ⊢
  rw [show (((dk kvs).map fun _ => true).all id) = true by simp]
  refine iteF ?_
  have s08 := s07.trans s8
  have t8 := s8 _ _ t7
  have h8 := s8 _ _ h7
  have hk := exc_01 hc hdB hV
  have hw := exc_worth C1 C2 hV
  refine ⟨_, rfl, _, rfl, .ref a, t, c, ps, kvs, rfl, R1.mono s08, by omega, t8, mo C1 B1 hk, fun H9 s9 => ?_⟩
  refine ⟨_, rfl, _, rfl, .ref b, t, d, rs, kvs, rfl, (R2.mono s08).mono s9, by omega, s9 _ _ t8, mo C2 B2 hk, fun Ha sa => ⟨_, _, rfl, rfl, _, rfl, ?_⟩⟩
  rw [decide_eq_true hw]
  refine iteF ?_
  have s0a := s08.trans (s9.trans sa)
  have ta := sa _ _ (s9 _ _ t8)
  have h_a := sa _ _ (s9 _ _ h8)
  have hin : ∀ y ∈ q7, y ∈ kvs.map (·.1) := fun y hy => pk.mem_iff.mpr hy
  refine ⟨_, rfl, a, _, 0, .int c, rfl, rfl, SqT.of (s0a _ _ ha), atI_nat (j := 0) rfl, _, rfl, b, _, 0, .int d, rfl, rfl, SqT.of (s0a _ _ hb), atI_nat (j := 0) rfl, _, _, rfl, rfl, _, rfl, ite2 (fun h => ?_) (fun h => ?_)⟩
  · have hdc : d < c := of_decide_eq_true h
    have z : ∀ y, tm kvs y = 0 := by
      rcases hV with ⟨_, z⟩ | ⟨h1, _⟩
      · exact z
      · exact absurd hdc h1
    refine ⟨_, rfl, l, rfl, ⟨_, SqL.of h_a⟩, lc_list (xs := q7.map V.str) (fun i ys H' => H' = Ha ∧ ys = (q7.take i).map fun _ => V.bl true) ⟨rfl, rfl⟩ (fun i ys H' _ p => by rw [p.1]; exact SqL.of h_a) ?_ ?_⟩
    · rintro i ys H' y hy ⟨rfl, rfl⟩
      rw [List.getElem?_map] at hy
      obtain ⟨nm, hnm, rfl⟩ := Option.map_eq_some_iff.mp hy
      have hi := (List.getElem?_eq_some_iff.mp hnm).1
      have g1 := dget ta (hin nm (List.mem_of_getElem? hnm))
      rw [z] at g1
      refine turn_name ⟨_, rfl, _, rfl, t, _, rfl, g1, rfl, ?_, rfl, ?_⟩
      · rw [List.length_map, List.length_take, sizeLine_eq]; omega
      · rw [List.take_add_one, hnm, List.map_append]; rfl
    rintro ys H' ⟨rfl, rfl⟩ lb hlb
    rw [List.length_map, List.take_length]
    refine ⟨lb, q7.map fun _ => true, rfl, SqL.of (by rw [upd_same, List.map_map]; rfl), ?_⟩
    rw [show ((q7.map fun _ => true).all id) = true by simp]
    exact q _ (s0a.trans (same_new hlb _))
  have hdc : ¬ d < c := fun z => h (decide_eq_true z)
  rcases hV with ⟨h1, _⟩ | ⟨_, i0, p, hp, hx, hn, z⟩
  · exact absurd h1 hdc
  have e2 := fr_same p2 hp hx hn
  subst e2
  have hpm := List.mem_of_getElem? hp
  have hpk : p.1 ∈ kvs.map (·.1) := (k1.2.1 _).mpr (List.mem_append_left _ (List.mem_map_of_mem hpm))
  refine ⟨_, rfl, l, rfl, ⟨_, SqL.of h_a⟩, lc_list (xs := q7.map V.str) (fun i ys H' => H' = Ha ∧ ∃ n, n ≤ i ∧ ys = List.replicate n (V.bl true)) ⟨rfl, 0, Nat.le_refl _, rfl⟩ (fun i ys H' _ p => by rw [p.1]; exact SqL.of h_a) ?_ ?_⟩
  · rintro i ys H' y hy ⟨rfl, n, hn', rfl⟩
    rw [List.getElem?_map] at hy
    obtain ⟨nm, hnm, rfl⟩ := Option.map_eq_some_iff.mp hy
    have hi := (List.getElem?_eq_some_iff.mp hnm).1
    refine turn_if ⟨_, rfl, _, rfl, rfl, _, rfl, ?_⟩
    by_cases e : nm = p.1
    · rw [show (!decide (V.str nm = V.str p.1)) = false by rw [e]; simp]
      exact iteF ⟨rfl, n, by omega, rfl⟩
    · rw [show (!decide (V.str nm = V.str p.1)) = true by simp [e]]
      have g1 := dget ta (hin nm (List.mem_of_getElem? hnm))
      rw [z, if_neg (Ne.symm e)] at g1
      refine iteT ⟨_, rfl, _, rfl, t, _, rfl, g1, rfl, ?_, rfl, n + 1, by omega, ?_⟩
      · rw [List.length_replicate, sizeLine_eq]; omega
      · rw [List.replicate_succ']; rfl
  rintro ys H' ⟨rfl, n, _, rfl⟩ lb hlb
  refine ⟨lb, List.replicate n true, rfl, SqL.of (by rw [upd_same, List.map_replicate]), _, rfl, ?_⟩
  rw [show ((List.replicate n true).all id) = true by simp]
  refine iteF ?_
  have sb := same_new hlb (.lst (List.replicate n (V.bl true)))
  have tb := sb _ _ ta
  have s0b := s0a.trans sb
  generalize upd H' lb (.lst (List.replicate n (V.bl true))) = Hb at sb tb s0b ⊢
  have zp : tm kvs p.1 = (d - c) / (p.2 - tm rs p.1) + 1 := by rw [z, if_pos rfl]
  have n0 : 0 ≤ (d - c) / (p.2 - tm rs p.1) := Int.ediv_nonneg (by omega) (by omega)
  have n1' : (d - c) / (p.2 - tm rs p.1) ≤ d - c := Int.ediv_le_self _ (by omega)
  refine fun e he => ?_
  refine ⟨_, rfl, _, rfl, _, rfl, t, _, rfl, dget (same_new he _ _ _ tb) hpk, _, _, rfl, rfl, upd_same, [(Sum.inr p.1, .int (tm kvs p.1 - 1))], rfl, Nat.le_of_ble_eq_true rfl, ?_⟩
  generalize e6 : upd _ _ _ = Hc
  have s_c : Same Hb Hc := by rw [← e6]; exact same_two he _ _
  have e_c : Hc e = some (.dK (dk [(p.1, tm kvs p.1 - 1)])) := by rw [← e6]; exact upd_same
  clear e6
  have tc := s_c _ _ tb
  have s0c := s0b.trans s_c
  have hkf : ∀ y, 0 ≤ tm [(p.1, tm kvs p.1 - 1)] y ∧ tm [(p.1, tm kvs p.1 - 1)] y ≤ 131 * 10 ^ 58 := fun y => by rw [one_tm, zp]; split <;> omega
  refine ⟨_, rfl, _, rfl, t, _, rfl, dget tc hpk, _, _, rfl, rfl, _, rfl, ?_⟩
  rw [decide_eq_true (show (0 : Int) < tm kvs p.1 by rw [zp]; omega)]
  refine iteT ⟨_, rfl, _, rfl, .ref a, e, c, ps, _, rfl, R1.mono s0c, by omega, e_c, mo C1 B1 hkf, fun Hd sd => ?_⟩
  refine ⟨_, rfl, _, rfl, .ref b, e, d, rs, _, rfl, (R2.mono s0c).mono sd, by omega, sd _ _ e_c, mo C2 B2 hkf, fun He se => ⟨_, _, rfl, rfl, ?_⟩⟩
  have fl := few_le (c := c) (d := d) (n := tm kvs p.1 - 1) C1 C2 hpm hx (by rw [zp]; omega)
  show Q (V.bl (decide (c + W (tm [(p.1, tm kvs p.1 - 1)]) ps ≤ d + W (tm [(p.1, tm kvs p.1 - 1)]) rs))) He
  rw [decide_eq_true fl]
  exact q _ (s0c.trans (sd.trans se))
end
end K06

set_option maxHeartbeats 1000000
namespace K06
open PySem L2
abbrev s_law : Stmt := top 15
def spLaw (K : PySem.W.Frag) : Sp := fun vs H Q _ => ∃ (a : Addr) (ns : List Int), vs = [.ref a] ∧ SqL K H a (ns.map V.int) ∧ ns.length ≤ 63 ∧ ∀ H', Q (.bl true) H'
section
variable {P : Program} {w : World} {K : PySem.W.Frag} {mg : Str → Option Value} {base : Heap}
theorem sc_law : FnScope ["_law_script", "_law_a", "_law_b", "_law_found", "_law_ahead"] ["_law_script"] (defScope s_law) := ⟨rfl, rfl, rfl, by decide +kernel, rfl, by decide +kernel, by decide +kernel⟩
theorem ok_law {f : Addr} {fd : FuncData} {k0 : Nat} (F : Fun K "law" "law" s_law f fd) (T : Txt K mg) (D_law_twos : Def P w K mg base k0 "_law_twos" ["_law_script"] (spTwos K)) (D_law_right : Def P w K mg base k0 "_law_right" ["_law_a", "_law_b"] spRight) (Dexceeding : Def P w K mg base k0 "exceeding" ["a", "b"] spExc2) :
    FnOk P w K mg base CX0 (k0 + 1) f fd ["_law_script"] (spLaw K) := by
  have nd : (["_law_script", "_law_a", "_law_b", "_law_found", "_law_ahead"] : List Str).Nodup := sc_law.nd
  refine F.ok sc_law (fun vs H Q E h => ?_) (fun cdv A outer s H vs Q E hr h => ?_)
  · obtain ⟨a, ns, rfl, _⟩ := h
    rfl
  obtain ⟨a, ns, rfl, hS, h63, q⟩ := h
  have hu8 : (A.deeper (PyProof.Rows.envOfC "law" (defScope s_law) s.heap.objs.size f cdv)).units + 8 < cLine := hu8_of hr
  refine ⟨_, (@pss_cons _ _ _ _ _ (@ps_for _ _ _ _ _ _ _ _ PassesOwn.never rfl (@pi_list _ _ _ _ (@pe_def _ _ _ _ _ _ _ _ _ _ D_law_twos hr rfl (@pa_cons _ _ _ _ _ (@pv _ 0 _ _ (by rfl) (by first | exact Or.inl rfl | exact Or.inr (Or.inl rfl) | exact Or.inr (Or.inr rfl)) (by decide) (by decide)) (@pa_nil _) (by rfl)) (by decide) (by rfl) (by rfl))) (@pg_tup _ _ _ _ _ _ rfl (@pgs_cons _ _ _ _ _ (@pg_name _ _ (1) _ nd rfl (Or.inl rfl) (by first | exact .inl rfl | exact .inr rfl | assumption)) (@pgs_cons _ _ _ _ _ (@pg_name _ _ (2) _ nd rfl (Or.inl rfl) (by first | exact .inl rfl | exact .inr rfl | assumption)) (@pgs_nil _) (by rfl)) (by rfl)) (by rfl) (by rfl)) (@pss_cons _ _ _ _ _ (@ps_if _ _ _ _ _ _ _ _ (@PW.pt _ _ _ (@pw_or _ _ _ _ _ _ _ (@pt_not _ _ _ _ (@pt_val _ _ _ (@pe_def _ _ _ _ _ _ _ _ _ _ D_law_right hr rfl (@pa_cons _ _ _ _ _ (@pv _ 1 _ _ (by rfl) (by first | exact Or.inl rfl | exact Or.inr (Or.inl rfl) | exact Or.inr (Or.inr rfl)) (by decide) (by decide)) (@pa_cons _ _ _ _ _ (@pv _ 2 _ _ (by rfl) (by first | exact Or.inl rfl | exact Or.inr (Or.inl rfl) | exact Or.inr (Or.inr rfl)) (by decide) (by decide)) (@pa_nil _) (by rfl)) (by rfl)) (by decide) (by rfl) (by rfl)) (by intro _; rfl))) (@pw_or1 _ _ _ _ (@pt_not _ _ _ _ (@pt_val _ _ _ (@pe_def _ _ _ _ _ _ _ _ _ _ D_law_right hr rfl (@pa_cons _ _ _ _ _ (@pv _ 2 _ _ (by rfl) (by first | exact Or.inl rfl | exact Or.inr (Or.inl rfl) | exact Or.inr (Or.inr rfl)) (by decide) (by decide)) (@pa_cons _ _ _ _ _ (@pv _ 1 _ _ (by rfl) (by first | exact Or.inl rfl | exact Or.inr (Or.inl rfl) | exact Or.inr (Or.inr rfl)) (by decide) (by decide)) (@pa_nil _) (by rfl)) (by rfl)) (by decide) (by rfl) (by rfl)) (by intro _; rfl)))))) (@pss_one _ _ _ (@ps_ret _ _ _ _ (@pe_bl _ _ _ _))) (@pss_nil _)) (@pss_cons _ _ _ _ _ (@ps_set _ _ (3) _ _ _ _ nd rfl (Or.inl rfl) (@pe_def _ _ _ _ _ _ _ _ _ _ Dexceeding hr rfl (@pa_cons _ _ _ _ _ (@pv _ 1 _ _ (by rfl) (by first | exact Or.inl rfl | exact Or.inr (Or.inl rfl) | exact Or.inr (Or.inr rfl)) (by decide) (by decide)) (@pa_cons _ _ _ _ _ (@pv _ 2 _ _ (by rfl) (by first | exact Or.inl rfl | exact Or.inr (Or.inl rfl) | exact Or.inr (Or.inr rfl)) (by decide) (by decide)) (@pa_nil _) (by rfl)) (by rfl)) (by decide) (by rfl) (by rfl)) (by rfl) (by first | exact .inl rfl | exact .inr rfl | assumption)) (@pss_one _ _ _ (@ps_if _ _ _ _ _ _ _ _ (@pt_cmpR _ _ _ _ _ _ _ _ op_notN (@pv _ 3 _ _ (by rfl) (by first | exact Or.inl rfl | exact Or.inr (Or.inl rfl) | exact Or.inr (Or.inr rfl)) (by decide) (by decide)) (@pe_non _ _ _) (nomark _)) (@pss_cons _ _ _ _ _ (@ps_set _ _ (4) _ _ _ _ nd rfl (Or.inl rfl) (@pe_callTy _ _ _ _ _ _ _ _ _ call_dictC rfl T.dict (by decide +kernel) (@pa_cons _ _ _ _ _ (@pv _ 3 _ _ (by rfl) (by first | exact Or.inl rfl | exact Or.inr (Or.inl rfl) | exact Or.inr (Or.inr rfl)) (by decide) (by decide)) (@pa_nil _) (by rfl)) (by decide) (by decide) (by rfl) (by rfl)) (by rfl) (by first | exact .inl rfl | exact .inr rfl | assumption)) (@pss_cons _ _ _ _ _ (@ps_expr _ _ _ _ (@pe_bm0 _ _ _ _ _ _ _ _ _ PySem.F.plainAttrs_dict PySem.F.slot_dict_clear PySem.F.type_dict_clear mt_clearD (@pv _ 3 _ _ (by rfl) (by first | exact Or.inl rfl | exact Or.inr (Or.inl rfl) | exact Or.inr (Or.inr rfl)) (by decide) (by decide)) (by rfl) (by rfl)) (by rfl)) (@pss_one _ _ _ (@ps_if _ _ _ _ _ _ _ _ (@pt_cmpR _ _ _ _ _ _ _ _ (op_neS hu8) (@pe_def _ _ _ _ _ _ _ _ _ _ Dexceeding hr rfl (@pa_cons _ _ _ _ _ (@pv _ 1 _ _ (by rfl) (by first | exact Or.inl rfl | exact Or.inr (Or.inl rfl) | exact Or.inr (Or.inr rfl)) (by decide) (by decide)) (@pa_cons _ _ _ _ _ (@pv _ 2 _ _ (by rfl) (by first | exact Or.inl rfl | exact Or.inr (Or.inl rfl) | exact Or.inr (Or.inr rfl)) (by decide) (by decide)) (@pa_nil _) (by rfl)) (by rfl)) (by decide) (by rfl) (by rfl)) (@pv _ 4 _ _ (by rfl) (by first | exact Or.inl rfl | exact Or.inr (Or.inl rfl) | exact Or.inr (Or.inr rfl)) (by decide) (by decide)) (nomark _)) (@pss_one _ _ _ (@ps_ret _ _ _ _ (@pe_bl _ _ _ _))) (@pss_nil _))))) (@pss_nil _))))) (by intro _; rfl)) (@pss_one _ _ _ (@ps_ret _ _ _ _ (@pe_bl _ _ _ _)))), ?_⟩
  refine ⟨_, rfl, a, ns, rfl, hS, h63, fun H2 l ys xs2 s2 hl h52 hnm2 two lys => ⟨l, rfl, ⟨ys, SqL.of hl⟩, for_list (xs := ys) (fun i σ H' => ∃ (o1 o2 o3 o4 : Option V), σ = [some (.ref a), o1, o2, o3, o4] ∧ Same H2 H') ⟨_, _, _, _, rfl, Same.refl _⟩ (fun i σ H' _ ⟨_, _, _, _, _, sx⟩ => SqL.of (sx _ _ hl)) ?T1 ?_⟩⟩
  case T1 =>
    rintro i x σ H3 hx ⟨o1, o2, o3, o4, rfl, s3⟩
    obtain ⟨p, v, u, c, d, ps, qs, rfl, hp, R1, R2, hc, hcB, hd, hdB, G1, G2, B1, B2⟩ := (two x (List.mem_of_getElem? hx)).ex
    have C1 := G1.canon
    have C2 := G2.canon
    have l1 := G1.five h52
    have l2 := G2.five h52
    have B60 : ∀ p ∈ ps, p.2 < 10 ^ 60 := fun p hp => by have := B1 p hp; omega
    refine ⟨p, _, rfl, SqT.of (s3 _ _ hp), rfl, _, _, rfl, _, _, rfl, rfl, ?_⟩
    refine ⟨_, rfl, _, rfl, v, u, c, d, ps, qs, rfl, R1.mono s3, R2.mono s3, C1, C2, l1, l2, hc, hcB, hd, hdB, B1, B2, fun H4 s4 => ?_⟩
    have s34 := s3.trans s4
    refine ⟨_, rfl, iteF ⟨_, rfl, _, rfl, u, v, d, c, qs, ps, rfl, R2.mono s34, R1.mono s34, C2, C1, l2, l1, hd, hdB, hc, hcB, B2, B1, fun H5 s5 => ⟨_, rfl, iteF ?_⟩⟩⟩
    have s35 := s34.trans s5
    refine ⟨_, rfl, _, rfl, v, u, c, d, ps, qs, rfl, R1.mono s35, R2.mono s35, C1, C2, by omega, by omega, B60, fun H6 x6 s6 p6 => ?_⟩
    have s36 := s35.trans s6
    rcases p6 with ⟨rfl, _⟩ | ⟨t, kvs, rfl, n6, t6, k6, hV6⟩
    · exact ⟨_, rfl, rfl, _, rfl, iteF ⟨_, _, _, _, rfl, s36⟩⟩
    refine ⟨_, rfl, rfl, _, rfl, iteT ?_⟩
    refine ⟨_, rfl, t, _, rfl, .inl t6, fun e he => ?_⟩
    have s7 := same_new he (.dK (dk kvs))
    have e7 : upd H6 e (.dK (dk kvs)) e = some (.dK (dk kvs)) := upd_same
    have t7 := s7 _ _ t6
    have s37 := s36.trans s7
    have et : e ≠ t := fun z => by rw [z, t6] at he; cases he
    generalize upd H6 e (.dK (dk kvs)) = H7 at s7 e7 t7 s37 ⊢
    refine ⟨_, rfl, .inr (.inr (.inl ⟨rfl, .inl ⟨_, t7⟩⟩)), t, _, rfl, rfl, t7, ?_⟩
    have e8 : upd H7 t (.dK []) e = some (.dK (dk kvs)) := by rw [upd_ne et]; exact e7
    have n2 : H2 t = none := by
      cases hz : H2 t with
      | none => rfl
      | some z => rw [s35 _ _ hz] at n6; cases n6
    have s28 : Same H2 (upd H7 t (.dK [])) := fun b o z => by rw [upd_ne (ne_of_none z n2)]; exact s37 _ _ z
    generalize upd H7 t (.dK []) = H8 at e8 s28 ⊢
    refine ⟨_, rfl, _, rfl, v, u, c, d, ps, qs, rfl, R1.mono s28, R2.mono s28, C1, C2, by omega, by omega, B60, fun H9 x9 s9 p9 => ?_⟩
    rcases p9 with ⟨rfl, hE⟩ | ⟨t9, kvs9, rfl, n9, t9', k9, hV9⟩
    · exfalso
      rcases hV6 with ⟨h1, _⟩ | ⟨_, i, p, h1, h2, _⟩
      · exact hE (.inl h1)
      · exact hE (.inr ⟨p, List.mem_of_getElem? h1, h2⟩)
    obtain ⟨g1, g2⟩ := deq k9 k6 fun y => exc_tm hV9 hV6 y
    exact ⟨_, rfl, t9, e, _, _, rfl, rfl, .inl t9', .inl (s9 _ _ e8), g1, g2, _, rfl, iteF ⟨_, _, _, _, rfl, s28.trans s9⟩⟩
  rintro σ H3 ⟨o1, o2, o3, o4, rfl, s3⟩
  exact q H3
end
end K06

set_option maxHeartbeats 1000000
namespace K06
open PySem L2
theorem all_mk {l : PySem.W.OpenLaw} {w : World} {K : PySem.W.Frag} {h : Heap} {mg : Str → Option Value} {fa f1 f2 f3 f4 f5 f6 f7 f8 f9 f10 f11 f12 f13 f14 : Addr} (X : K.In h) (G : h.Ns mainGlobals mg) (hfa : mg "law" = some (.ref fa))
    {od1 an1 od2 an2 od3 an3 od4 an4 od5 an5 od6 an6 od7 an7 od8 an8 od9 an9 od10 an10 od11 an11 od12 an12 od13 an13 od14 an14 : Option Addr} {sl1 sl2 sl3 sl4 sl5 sl6 sl7 sl8 sl9 sl10 sl11 sl12 sl13 sl14 : Array (Option Value)}
    {oc1 kV1 dc1 pm1 cd1 ct1 oc2 kV2 dc2 pm2 cd2 ct2 oc3 kV3 dc3 pm3 cd3 ct3 oc4 kV4 dc4 pm4 cd4 ct4 oc5 kV5 dc5 pm5 cd5 ct5 oc6 kV6 dc6 pm6 cd6 ct6 oc7 kV7 dc7 pm7 cd7 ct7 oc8 kV8 dc8 pm8 cd8 ct8 oc9 kV9 dc9 pm9 cd9 ct9 oc10 kV10 dc10 pm10 cd10 ct10 oc11 kV11 dc11 pm11 cd11 ct11 oc12 kV12 dc12 pm12 cd12 ct12 oc13 kV13 dc13 pm13 cd13 ct13 oc14 kV14 dc14 pm14 cd14 ct14 : Value}
    (a1 : PySem.W.nsIn K mainGlobals "names_of" = some (some (.ref f1)))
    (l1 : K.lookup f1 = some ⟨oc1, od1, .func (PySem.W.fnOf "names_of" "names_of" (defArgs s_names_of) (defBody s_names_of) (defScope s_names_of) .none kV1 dc1 pm1 an1 cd1 ct1), sl1⟩)
    (c1 : PySem.W.codeIn K cd1 "names_of" = true) (k1 : PySem.W.keepIn K (.ref f1) = true)
    (a2 : PySem.W.nsIn K mainGlobals "noughts" = some (some (.ref f2)))
    (l2 : K.lookup f2 = some ⟨oc2, od2, .func (PySem.W.fnOf "noughts" "noughts" (defArgs s_noughts) (defBody s_noughts) (defScope s_noughts) .none kV2 dc2 pm2 an2 cd2 ct2), sl2⟩)
    (c2 : PySem.W.codeIn K cd2 "noughts" = true) (k2 : PySem.W.keepIn K (.ref f2) = true)
    (a3 : PySem.W.nsIn K mainGlobals "exceeding" = some (some (.ref f3)))
    (l3 : K.lookup f3 = some ⟨oc3, od3, .func (PySem.W.fnOf "exceeding" "exceeding" (defArgs s_exceeding) (defBody s_exceeding) (defScope s_exceeding) .none kV3 dc3 pm3 an3 cd3 ct3), sl3⟩)
    (c3 : PySem.W.codeIn K cd3 "exceeding" = true) (k3 : PySem.W.keepIn K (.ref f3) = true)
    (a4 : PySem.W.nsIn K mainGlobals "_law_cell_at" = some (some (.ref f4)))
    (l4 : K.lookup f4 = some ⟨oc4, od4, .func (PySem.W.fnOf "_law_cell_at" "_law_cell_at" (defArgs s_cell_at) (defBody s_cell_at) (defScope s_cell_at) .none kV4 dc4 pm4 an4 cd4 ct4), sl4⟩)
    (c4 : PySem.W.codeIn K cd4 "_law_cell_at" = true) (k4 : PySem.W.keepIn K (.ref f4) = true)
    (a5 : PySem.W.nsIn K mainGlobals "_law_mixed" = some (some (.ref f5)))
    (l5 : K.lookup f5 = some ⟨oc5, od5, .func (PySem.W.fnOf "_law_mixed" "_law_mixed" (defArgs s_mixed) (defBody s_mixed) (defScope s_mixed) .none kV5 dc5 pm5 an5 cd5 ct5), sl5⟩)
    (c5 : PySem.W.codeIn K cd5 "_law_mixed" = true) (k5 : PySem.W.keepIn K (.ref f5) = true)
    (a6 : PySem.W.nsIn K mainGlobals "_law_names" = some (some (.ref f6)))
    (l6 : K.lookup f6 = some ⟨oc6, od6, .func (PySem.W.fnOf "_law_names" "_law_names" (defArgs s_names) (defBody s_names) (defScope s_names) .none kV6 dc6 pm6 an6 cd6 ct6), sl6⟩)
    (c6 : PySem.W.codeIn K cd6 "_law_names" = true) (k6 : PySem.W.keepIn K (.ref f6) = true)
    (a7 : PySem.W.nsIn K mainGlobals "_law_made" = some (some (.ref f7)))
    (l7 : K.lookup f7 = some ⟨oc7, od7, .func (PySem.W.fnOf "_law_made" "_law_made" (defArgs s_made) (defBody s_made) (defScope s_made) .none kV7 dc7 pm7 an7 cd7 ct7), sl7⟩)
    (c7 : PySem.W.codeIn K cd7 "_law_made" = true) (k7 : PySem.W.keepIn K (.ref f7) = true)
    (a8 : PySem.W.nsIn K mainGlobals "_law_drawn" = some (some (.ref f8)))
    (l8 : K.lookup f8 = some ⟨oc8, od8, .func (PySem.W.fnOf "_law_drawn" "_law_drawn" (defArgs s_drawn) (defBody s_drawn) (defScope s_drawn) .none kV8 dc8 pm8 an8 cd8 ct8), sl8⟩)
    (c8 : PySem.W.codeIn K cd8 "_law_drawn" = true) (k8 : PySem.W.keepIn K (.ref f8) = true)
    (a9 : PySem.W.nsIn K mainGlobals "_law_other" = some (some (.ref f9)))
    (l9 : K.lookup f9 = some ⟨oc9, od9, .func (PySem.W.fnOf "_law_other" "_law_other" (defArgs s_other) (defBody s_other) (defScope s_other) .none kV9 dc9 pm9 an9 cd9 ct9), sl9⟩)
    (c9 : PySem.W.codeIn K cd9 "_law_other" = true) (k9 : PySem.W.keepIn K (.ref f9) = true)
    (a10 : PySem.W.nsIn K mainGlobals "_law_twos" = some (some (.ref f10)))
    (l10 : K.lookup f10 = some ⟨oc10, od10, .func (PySem.W.fnOf "_law_twos" "_law_twos" (defArgs s_twos) (defBody s_twos) (defScope s_twos) .none kV10 dc10 pm10 an10 cd10 ct10), sl10⟩)
    (c10 : PySem.W.codeIn K cd10 "_law_twos" = true) (k10 : PySem.W.keepIn K (.ref f10) = true)
    (a11 : PySem.W.nsIn K mainGlobals "_law_worth" = some (some (.ref f11)))
    (l11 : K.lookup f11 = some ⟨oc11, od11, .func (PySem.W.fnOf "_law_worth" "_law_worth" (defArgs s_lworth) (defBody s_lworth) (defScope s_lworth) .none kV11 dc11 pm11 an11 cd11 ct11), sl11⟩)
    (c11 : PySem.W.codeIn K cd11 "_law_worth" = true) (k11 : PySem.W.keepIn K (.ref f11) = true)
    (a12 : PySem.W.nsIn K mainGlobals "_law_first" = some (some (.ref f12)))
    (l12 : K.lookup f12 = some ⟨oc12, od12, .func (PySem.W.fnOf "_law_first" "_law_first" (defArgs s_first) (defBody s_first) (defScope s_first) .none kV12 dc12 pm12 an12 cd12 ct12), sl12⟩)
    (c12 : PySem.W.codeIn K cd12 "_law_first" = true) (k12 : PySem.W.keepIn K (.ref f12) = true)
    (a13 : PySem.W.nsIn K mainGlobals "_law_right" = some (some (.ref f13)))
    (l13 : K.lookup f13 = some ⟨oc13, od13, .func (PySem.W.fnOf "_law_right" "_law_right" (defArgs s_right) (defBody s_right) (defScope s_right) .none kV13 dc13 pm13 an13 cd13 ct13), sl13⟩)
    (c13 : PySem.W.codeIn K cd13 "_law_right" = true) (k13 : PySem.W.keepIn K (.ref f13) = true)
    (a14 : PySem.W.nsIn K mainGlobals "law" = some (some (.ref f14)))
    (l14 : K.lookup f14 = some ⟨oc14, od14, .func (PySem.W.fnOf "law" "law" (defArgs s_law) (defBody s_law) (defScope s_law) .none kV14 dc14 pm14 an14 cd14 ct14), sl14⟩)
    (c14 : PySem.W.codeIn K cd14 "law" = true) (k14 : PySem.W.keepIn K (.ref f14) = true)
    (z1 : PySem.W.nsIn K mainGlobals "len" = some none)
    (z2 : PySem.W.nsIn K mainGlobals "isinstance" = some none)
    (z3 : PySem.W.nsIn K mainGlobals "int" = some none)
    (z4 : PySem.W.nsIn K mainGlobals "bool" = some none)
    (z5 : PySem.W.nsIn K mainGlobals "tuple" = some none)
    (z6 : PySem.W.nsIn K mainGlobals "all" = some none)
    (z7 : PySem.W.nsIn K mainGlobals "range" = some none)
    (z8 : PySem.W.nsIn K mainGlobals "enumerate" = some none)
    (z9 : PySem.W.nsIn K mainGlobals "sorted" = some none)
    (z10 : PySem.W.nsIn K mainGlobals "max" = some none)
    (z11 : PySem.W.nsIn K mainGlobals "sum" = some none)
    (z12 : PySem.W.nsIn K mainGlobals "dict" = some none)
    (z13 : PySem.W.nsIn K mainGlobals "set" = some none)
    (z14 : PySem.W.nsIn K mainGlobals "list" = some none)
    (z15 : PySem.W.nsIn K mainGlobals "any" = some none)
    (z16 : PySem.W.nsIn K mainGlobals "reversed" = some none)
    :
    ∃ fd : FuncData, (∀ (s : Shared) (v : Value), BindsTo s fd ⟨[v], []⟩ [("_law_script", v)]) ∧ ∀ base : Heap, K.In base → base.Ns mainGlobals mg → FnOk l.prog w K mg base CX0 5 fa fd ["_law_script"] (spLaw K) := by
  have e := hfa.symm.trans (PySem.W.mg_of X G a14)
  cases e
  have T : Txt K mg := ⟨PySem.W.mg_none_of X G z1, PySem.W.mg_none_of X G z2, PySem.W.mg_none_of X G z3, PySem.W.mg_none_of X G z4, PySem.W.mg_none_of X G z5, PySem.W.mg_none_of X G z6, PySem.W.mg_none_of X G z7, PySem.W.mg_none_of X G z8, PySem.W.mg_none_of X G z9, PySem.W.mg_none_of X G z10, PySem.W.mg_none_of X G z11, PySem.W.mg_none_of X G z12, PySem.W.mg_none_of X G z13, PySem.W.mg_none_of X G z14, PySem.W.mg_none_of X G z15, PySem.W.mg_none_of X G z16⟩
  have F1 := fun_mk (st := s_names_of) l1 c1 k1
  have b1 := F1.binds (ps := ["a"]) fun _ _ _ _ _ _ us hl => match us, hl with | [_], _ => rfl
  have F2 := fun_mk (st := s_noughts) l2 c2 k2
  have b2 := F2.binds (ps := ["a", "b"]) fun _ _ _ _ _ _ us hl => match us, hl with | [_, _], _ => rfl
  have F3 := fun_mk (st := s_exceeding) l3 c3 k3
  have b3 := F3.binds (ps := ["a", "b"]) fun _ _ _ _ _ _ us hl => match us, hl with | [_, _], _ => rfl
  have F4 := fun_mk (st := s_cell_at) l4 c4 k4
  have b4 := F4.binds (ps := ["_law_script", "_law_k"]) fun _ _ _ _ _ _ us hl => match us, hl with | [_, _], _ => rfl
  have F5 := fun_mk (st := s_mixed) l5 c5 k5
  have b5 := F5.binds (ps := ["_law_cell", "_law_k"]) fun _ _ _ _ _ _ us hl => match us, hl with | [_, _], _ => rfl
  have F6 := fun_mk (st := s_names) l6 c6 k6
  have b6 := F6.binds (ps := ["_law_cell"]) fun _ _ _ _ _ _ us hl => match us, hl with | [_], _ => rfl
  have F7 := fun_mk (st := s_made) l7 c7 k7
  have b7 := F7.binds (ps := ["_law_count", "_law_times"]) fun _ _ _ _ _ _ us hl => match us, hl with | [_, _], _ => rfl
  have F8 := fun_mk (st := s_drawn) l8 c8 k8
  have b8 := F8.binds (ps := ["_law_cells", "_law_names_here"]) fun _ _ _ _ _ _ us hl => match us, hl with | [_, _], _ => rfl
  have F9 := fun_mk (st := s_other) l9 c9 k9
  have b9 := F9.binds (ps := ["_law_a", "_law_cells", "_law_names_here"]) fun _ _ _ _ _ _ us hl => match us, hl with | [_, _, _], _ => rfl
  have F10 := fun_mk (st := s_twos) l10 c10 k10
  have b10 := F10.binds (ps := ["_law_script"]) fun _ _ _ _ _ _ us hl => match us, hl with | [_], _ => rfl
  have F11 := fun_mk (st := s_lworth) l11 c11 k11
  have b11 := F11.binds (ps := ["_law_a", "_law_numbers"]) fun _ _ _ _ _ _ us hl => match us, hl with | [_, _], _ => rfl
  have F12 := fun_mk (st := s_first) l12 c12 k12
  have b12 := F12.binds (ps := ["_law_a", "_law_b"]) fun _ _ _ _ _ _ us hl => match us, hl with | [_, _], _ => rfl
  have F13 := fun_mk (st := s_right) l13 c13 k13
  have b13 := F13.binds (ps := ["_law_a", "_law_b"]) fun _ _ _ _ _ _ us hl => match us, hl with | [_, _], _ => rfl
  have F14 := fun_mk (st := s_law) l14 c14 k14
  refine ⟨PySem.W.fnOf "law" "law" (defArgs s_law) (defBody s_law) (defScope s_law) .none kV14 dc14 pm14 an14 cd14 ct14, fun s v => .of_eq rfl, fun base _ _ => ?_⟩
  have D1 : Def l.prog w K mg base 1 "names_of" ["a"] spNamesOf := ⟨f1, _, ok_names_of F1 T, b1, k1, PySem.W.mg_of X G a1⟩
  have D2 : Def l.prog w K mg base 2 "noughts" ["a", "b"] spNoughts := ⟨f2, _, ok_noughts (k := 1) F2 T (D1.up (by decide)), b2, k2, PySem.W.mg_of X G a2⟩
  have D3 : Def l.prog w K mg base 3 "exceeding" ["a", "b"] spExc2 := ⟨f3, _, (ok_exceeding (k := 2) F3 T (D2.up (by decide))).imp exc_of, b3, k3, PySem.W.mg_of X G a3⟩
  have D4 : Def l.prog w K mg base 1 "_law_cell_at" ["_law_script", "_law_k"] (spCell K) := ⟨f4, _, ok_cell_at F4 T, b4, k4, PySem.W.mg_of X G a4⟩
  have D5 : Def l.prog w K mg base 1 "_law_mixed" ["_law_cell", "_law_k"] spMixed := ⟨f5, _, ok_mixed F5 T, b5, k5, PySem.W.mg_of X G a5⟩
  have D6 : Def l.prog w K mg base 2 "_law_names" ["_law_cell"] spNms := ⟨f6, _, ok_names (k := 1) F6 T (D5.up (by decide)), b6, k6, PySem.W.mg_of X G a6⟩
  have D7 : Def l.prog w K mg base 1 "_law_made" ["_law_count", "_law_times"] spMade := ⟨f7, _, ok_made F7 T, b7, k7, PySem.W.mg_of X G a7⟩
  have D8 : Def l.prog w K mg base 2 "_law_drawn" ["_law_cells", "_law_names_here"] (spDrawn K) := ⟨f8, _, ok_drawn (k := 1) F8 T (D5.up (by decide)) (D7.up (by decide)), b8, k8, PySem.W.mg_of X G a8⟩
  have D9 : Def l.prog w K mg base 3 "_law_other" ["_law_a", "_law_cells", "_law_names_here"] (spOther K) := ⟨f9, _, ok_other (k := 2) F9 T (D5.up (by decide)) (D7.up (by decide)) (D8.up (by decide)), b9, k9, PySem.W.mg_of X G a9⟩
  have D10 : Def l.prog w K mg base 4 "_law_twos" ["_law_script"] (spTwos K) := ⟨f10, _, ok_twos (k := 3) F10 T (D4.up (by decide)) (D6.up (by decide)) (D8.up (by decide)) (D9.up (by decide)), b10, k10, PySem.W.mg_of X G a10⟩
  have D11 : Def l.prog w K mg base 1 "_law_worth" ["_law_a", "_law_numbers"] spWorth := ⟨f11, _, ok_lworth F11 T, b11, k11, PySem.W.mg_of X G a11⟩
  have D12 : Def l.prog w K mg base 1 "_law_first" ["_law_a", "_law_b"] spFirst := ⟨f12, _, ok_first F12 T, b12, k12, PySem.W.mg_of X G a12⟩
  have D13 : Def l.prog w K mg base 4 "_law_right" ["_law_a", "_law_b"] spRight := ⟨f13, _, ok_right (k0 := 3) F13 T (D3.up (by decide)) (D12.up (by decide)) (D11.up (by decide)), b13, k13, PySem.W.mg_of X G a13⟩
  exact ok_law (k0 := 4) F14 T (D10.up (by decide)) (D13.up (by decide)) (D3.up (by decide))
theorem walk {l : PySem.W.OpenLaw} {q : Program} {loose : List Str} {XP : (Str → Option Value) → Heap → Prop} {YP : World → Heap → Prop} {d : DefRec} {K : Params → PySem.W.Frag} (hn : l.most = some 63) (hdf : d.params.defaults = [])
    (hY : ∀ (w : World) (h : Heap), YP w h → (K w.params).In h)
    (F : ∀ (w : World) (mg : Str → Option Value) (fa : Addr) (h : Heap), (K w.params).In h → h.Ns mainGlobals mg → mg d.name = some (.ref fa) →
      ∃ fd : FuncData, (∀ (s : Shared) (u : Value), BindsTo s fd ⟨[u], []⟩ [("_law_script", u)]) ∧ ∀ base : Heap, (K w.params).In base → base.Ns mainGlobals mg → FnOk l.prog w (K w.params) mg base CX0 5 fa fd ["_law_script"] (spLaw (K w.params))) :
    PySem.W.WalkO q loose XP YP l.row.toRowW d [] (fun f vs => PySem.call f vs) :=
  L2.walk_of (n := 63) (k := 5) (x := "_law_script") (CX := fun _ => CX0) (sp := fun w => spLaw (K w.params)) hn (by decide) hdf ⟨rfl, by decide, by decide⟩ hY F (fun _ _ a ns hl _ hS => ⟨a, ns, rfl, hS, hl, fun _ => rfl⟩) fun _ _ _ _ _ z => z
end K06
open PySem PySem.W PyProof.Rows
set_option maxRecDepth 100000 in
set_option maxHeartbeats 0 in
theorem PySem.Challenge.cw_indexwise_k06_lengths_that_exceed_holds : PySem.Challenge.rw_indexwise_k06_lengths_that_exceed.Holds := by
  w_on; o_law; k_head; (case hw => w_witness2)
  k_fill
  refine K06.walk (l := PySem.Challenge.rw_indexwise_k06_lengths_that_exceed) rfl rfl (fun w h Y => PySem.W.kIn_of Y) ?F
  case F =>
    intro w mg fa h KX G hmg
    refine' K06.all_mk KX G hmg ?a1 ?l1 ?c1 ?k1 ?a2 ?l2 ?c2 ?k2 ?a3 ?l3 ?c3 ?k3 ?a4 ?l4 ?c4 ?k4 ?a5 ?l5 ?c5 ?k5 ?a6 ?l6 ?c6 ?k6 ?a7 ?l7 ?c7 ?k7 ?a8 ?l8 ?c8 ?k8 ?a9 ?l9 ?c9 ?k9 ?a10 ?l10 ?c10 ?k10 ?a11 ?l11 ?c11 ?k11 ?a12 ?l12 ?c12 ?k12 ?a13 ?l13 ?c13 ?k13 ?a14 ?l14 ?c14 ?k14 ?z1 ?z2 ?z3 ?z4 ?z5 ?z6 ?z7 ?z8 ?z9 ?z10 ?z11 ?z12 ?z13 ?z14 ?z15 ?z16
    (case a1 => k_is); (case l1 => k_is); (case c1 => k_is); (case k1 => k_is)
    (case a2 => k_is); (case l2 => k_is); (case c2 => k_is); (case k2 => k_is)
    (case a3 => k_is); (case l3 => k_is); (case c3 => k_is); (case k3 => k_is)
    (case a4 => k_is); (case l4 => k_is); (case c4 => k_is); (case k4 => k_is)
    (case a5 => k_is); (case l5 => k_is); (case c5 => k_is); (case k5 => k_is)
    (case a6 => k_is); (case l6 => k_is); (case c6 => k_is); (case k6 => k_is)
    (case a7 => k_is); (case l7 => k_is); (case c7 => k_is); (case k7 => k_is)
    (case a8 => k_is); (case l8 => k_is); (case c8 => k_is); (case k8 => k_is)
    (case a9 => k_is); (case l9 => k_is); (case c9 => k_is); (case k9 => k_is)
    (case a10 => k_is); (case l10 => k_is); (case c10 => k_is); (case k10 => k_is)
    (case a11 => k_is); (case l11 => k_is); (case c11 => k_is); (case k11 => k_is)
    (case a12 => k_is); (case l12 => k_is); (case c12 => k_is); (case k12 => k_is)
    (case a13 => k_is); (case l13 => k_is); (case c13 => k_is); (case k13 => k_is)
    (case a14 => k_is); (case l14 => k_is); (case c14 => k_is); (case k14 => k_is)
    (case z1 => k_is); (case z2 => k_is); (case z3 => k_is); (case z4 => k_is); (case z5 => k_is); (case z6 => k_is); (case z7 => k_is); (case z8 => k_is); (case z9 => k_is); (case z10 => k_is); (case z11 => k_is); (case z12 => k_is); (case z13 => k_is); (case z14 => k_is); (case z15 => k_is); (case z16 => k_is)
