import PyProof.Rows.All
import Wide.All
import OpenK.AllK
import Wide.FinOn
import Lean
import PyProof.EqAt
import PyProof.EqKinds
import PyProof.TupleCall
import PySem.Challenge.RW_indexwise_k24_programs_checked
set_option Elab.async false
set_option linter.all false
set_option maxRecDepth 100000
set_option maxHeartbeats 3200000
local macro_rules | `(tactic| trivial) => `(tactic| first | exact .inl rfl | exact .inr (.inl rfl) | exact .inr (.inr rfl) | exact .inr rfl | assumption)
namespace L2
open PySem PySem.Spec PyProof.Rows
abbrev Key := Sum Int Str
def jv : Key -> Value -> Bool
 | .inl k, v => Value.isInt k v
 | .inr x, v => Value.isStrOf x v
def yc (w : World) : Key -> Int
 | .inl k => hashInt k
 | .inr x => hashStr w x
theorem bu : ∀ {k : Key} {v : Value}, jv k v = true -> (∃ i t, k = Sum.inl i /\ v = Value.int i t) \/ (∃ x t, k = Sum.inr x /\ v = Value.str x t)
 | .inl i, v, h => by
  obtain ⟨t, e⟩ := Value.isInt_shape (k := i) (v := v) h
  exact .inl ⟨i, t, rfl, e⟩
 | .inr x, v, h => by
  obtain ⟨t, e⟩ := Value.isStrOf_shape (x := x) (v := v) h
  exact .inr ⟨x, t, rfl, e⟩
theorem qJ (i : Int) (t : Tok) : jv (.inl i) (.int i t) = true := by simp [jv, Value.isInt]
theorem qR (x : Str) (t : Tok) : jv (.inr x) (.str x t) = true := by simp [jv, Value.isStrOf]
theorem vN (a b : Int) : decide ((Sum.inl a : Key) = Sum.inl b) = (a == b) := by
 by_cases e : a = b
 ·subst e; simp
 ·have h : ¬ (Sum.inl a : Key) = Sum.inl b := fun q => e (Sum.inl.inj q)
  rw [decide_eq_false h]
  exact (beq_eq_false_iff_ne.mpr e).symm
theorem vJ (a b : Str) : decide ((Sum.inr a : Key) = Sum.inr b) = decide (a = b) := by
 by_cases e : a = b
 ·subst e; simp
 ·have h : ¬ (Sum.inr a : Key) = Sum.inr b := fun q => e (Sum.inr.inj q)
  rw [decide_eq_false h, decide_eq_false e]
theorem vQ (a : Int) (b : Str) : decide ((Sum.inl a : Key) = Sum.inr b) = false := decide_eq_false (fun q => nomatch q)
theorem wH (a : Str) (b : Int) : decide ((Sum.inr a : Key) = Sum.inl b) = false := decide_eq_false (fun q => nomatch q)
def be (prog : Program) (w : World) : PySem.KeyKind prog w Key where
 is := jv
 hash := yc w
 inj := fun v a b ha hb => by
  rcases bu ha with ⟨i, t, rfl, rfl⟩ | ⟨x, t, rfl, rfl⟩
  ·rcases bu hb with ⟨j, u, rfl, e⟩ | ⟨y, u, rfl, e⟩
   ·injection e with e1 _; rw [e1]
   ·exact nomatch e
  ·rcases bu hb with ⟨j, u, rfl, e⟩ | ⟨y, u, rfl, e⟩
   ·exact nomatch e
   ·injection e with e1 _; rw [e1]
 byValue := fun k v h => by
   rcases bu h with ⟨i, t, rfl, rfl⟩ | ⟨x, t, rfl, rfl⟩ <;> rfl
 pyHash := fun hv h => by
  rcases bu hv with ⟨i, t, rfl, rfl⟩ | ⟨x, t, rfl, rfl⟩
  ·exact wpAny_pyHash_int h
  ·exact wpAny_pyHash_str h
 eqBool := fun hu hv h => by
  rcases bu hu with ⟨i, t, rfl, rfl⟩ | ⟨x, t, rfl, rfl⟩
  ·rcases bu hv with ⟨j, u, rfl, rfl⟩ | ⟨y, u, rfl, rfl⟩
   ·rw [vN] at h; exact wpAny_eqBool_int h
   ·rw [vQ] at h; exact SeqAt.EqAt.int_str i t y u _ _ _ _ h
  ·rcases bu hv with ⟨j, u, rfl, rfl⟩ | ⟨y, u, rfl, rfl⟩
   ·rw [wH] at h; exact SeqAt.EqAt.str_int x t j u _ _ _ _ h
   ·rw [vJ] at h; exact wpAny_eqBool_str h
 «strs» := fun k x t v h => by
  rcases bu h with ⟨i, u, rfl, e⟩ | ⟨y, u, rfl, e⟩
  ·exact nomatch e
  ·injection e with e1 _
   subst e1
   cases v <;> rfl
theorem lq (prog : Program) (w : World) (i : Int) (t : Tok) : (be prog w).is (.inl i) (.int i t) = true := qJ i t
theorem eY (prog : Program) (w : World) (x : Str) (t : Tok) : (be prog w).is (.inr x) (.str x t) = true := qR x t
inductive V where
 | non | bl (b : Bool) | int (i : Int) | str (x : Str) | byt (b : Array UInt8) | flt (b : UInt64) | ref (a : Addr) | ty (n : String)
 deriving DecidableEq
def aQ : V -> Value -> Prop
 | .non, u => u = Value.none
 | .bl b, u => u = Value.bool b
 | .int i, u => ∃ t, u = Value.int i t
 | .str x, u => ∃ t, u = Value.str x t
 | .byt b, u => ∃ t, u = Value.bytes b t
 | .flt b, u => ∃ t, u = Value.float b t
 | .ref a, u => u = Value.ref a
 | .ty n, u => u = Value.type n
abbrev aL : List V -> List Value -> Prop := Paired aQ
theorem aL.length {xs : List V} {us : List Value} (r : aL xs us) : xs.length = us.length := Paired.length r
theorem aL.get : ∀ {xs : List V} {us : List Value} {i : Nat} {x : V}, aL xs us -> xs[i]? = some x -> ∃ u, us[i]? = some u /\ aQ x u
 | _, _, _, _, .nil, e => by simp at e
 | _, _, 0, _, .cons r _, e => by simp at e; subst e; exact ⟨_, rfl, r⟩
 | _, _, i + 1, x, .cons _ t, e => by
  obtain ⟨u, h1, h2⟩ := aL.get (i := i) (x := x) t (by simpa using e)
  exact ⟨u, by simpa using h1, h2⟩
theorem aL.set {x : V} {u : Value} (r : aQ x u) : ∀ {xs : List V} {us : List Value} (i : Nat), aL xs us -> aL (xs.set i x) (us.set i u)
 | _, _, _, .nil => .nil
 | _, _, 0, .cons _ t => .cons r t
 | _, _, i + 1, .cons q t => .cons q (aL.set r i t)
theorem aL.append : ∀ {xs ys : List V} {us ws : List Value}, aL xs us -> aL ys ws -> aL (xs ++ ys) (us ++ ws)
 | _, _, _, _, .nil, s => s
 | _, _, _, _, .cons r t, s => .cons r (aL.append t s)
theorem aL.take : ∀ {xs : List V} {us : List Value} (n : Nat), aL xs us -> aL (xs.take n) (us.take n)
 | _, _, 0, _ => .nil
 | _, _, _ + 1, .nil => .nil
 | _, _, n + 1, .cons r t => .cons r (aL.take n t)
theorem aL.drop : ∀ {xs : List V} {us : List Value} (n : Nat), aL xs us -> aL (xs.drop n) (us.drop n)
 | _, _, 0, r => r
 | _, _, _ + 1, .nil => .nil
 | _, _, n + 1, .cons _ t => aL.drop n t
def oE : Option V -> Option Value -> Prop
 | some v, some u => aQ v u
 | none, none => True
 | _, _ => False
def KV {κ : Type} : List (κ × V) -> List (κ × Value) -> Prop := Paired fun (p : κ × V) (q : κ × Value) => p.1 = q.1 /\ aQ p.2 q.2
def kV : Key -> V
 | .inl i => .int i
 | .inr x => .str x
inductive HO where
 /-- a list -/
 | lst (xs : List V)
 /-- a tuple (never changes) -/
 | tup (xs : List V)
 /-- a dict whose keys are ints and texts; one whose keys are tuples of ints and texts (the empty one is both) -/
 | dK (kvs : List (Key × V)) | dT (kvs : List (List Key × V))
 /-- a set of ints: its members, its size -/
 | set (S : Int -> Bool) (n : Nat)
 /-- an instance of the class at C, its dict at dx, its attributes -/
 | ins (C dx : Addr) (fs : List (Str × V))
 /-- the dict of the instance at x -/
 | own (x : Addr)
 /-- the dict of an exception -/
 | xd (fs : List (Str × V))
 /-- a bound method, f of x -/
 | met (f x : Addr)
 /-- a range object lo, lo + 1, .. below hi -/
 | rng (lo hi : Int)
 /-- a thing that is known to the object (the script; a dict while a loop walks it): read, never written while it is so -/
 | frz (o : Obj) (u : HO)
 /-- a code object's table -/
 | tbl (ps : Array Value)
 /-- any other thing, by what is true of its one object (a def of one's own: jg a S n := HO.ext fun h => ..) -/
 | ext (φ : Heap -> Prop)
abbrev Hp := Addr -> Option HO
def upd (H : Hp) (a : Addr) (o : HO) : Hp := fun b => if b = a then some o else H b
theorem ad {H : Hp} {a : Addr} {o : HO} : upd H a o a = some o := by unfold upd; rw [if_pos rfl]
theorem aE {H : Hp} {a b : Addr} {o : HO} (h : b ≠ a) : upd H a o b = H b := by unfold upd; rw [if_neg h]
theorem wU {H : Hp} {a b : Addr} {o u : HO} (h : H a = some o) (h' : H b = some u) (d : o ≠ u) : a ≠ b := by
 intro e; subst e; rw [h] at h'; exact d (Option.some.inj h')
theorem am {H : Hp} {a b : Addr} {o : HO} (h : H a = some o) (h' : H b = none) : a ≠ b := by
 intro e; subst e; rw [h] at h'; cases h'
def NoD (h : Heap) (a : Addr) : Prop := ∃ o, h.get? a = some o /\ o.dict = none
theorem NoD.new (h : Heap) {o : Obj} (e : o.dict = none) (f : o.isFreed = false := by rfl) : NoD (h.push o) h.objs.size := ⟨_, Heap.get?_push_size _ f, e⟩
section
variable (P : Program) (w : World)
def bo (H : Hp) (h : Heap) (a : Addr) : HO -> Prop
 | .lst xs => xs.length <= sizeLine /\ ∃ (its : List Value) (n : Nat), aL xs its /\ h.get? a = some { cls := .type "list", data := .seq its.toArray n }
 | .tup xs => xs.length <= sizeLine /\ ∃ its : List Value, aL xs its /\ IsTup h a its.toArray /\ NoD h a
 | .dK kvs => kvs.length <= sizeLine /\ (a == sysModules) = false /\ ∃ vs, KV kvs vs /\ h.DictOf (be P w) a vs
 | .dT kvs => kvs.length <= sizeLine /\ (a == sysModules) = false /\ ∃ xs : List (List Key × Addr × Value),
   Paired (fun (p : List Key × V) (q : List Key × Addr × Value) => p.1 = q.1 /\ H q.2.1 = some (.tup (p.1.map kV)) /\ aQ p.2 q.2.2) kvs xs /\
   ∃ o es ep, h.get? a = some o /\ o.ExactDict /\ o.data = .dict es ep /\ es.toList = xs.map (entryOfKey (tupleKind (be P w))) /\ (xs.map (·.1)).Nodup
 | .set S n => h.SetOf (intKind P w) a S n
 | .ins C dx fs => H dx = some (.own a) /\ fs.length <= 1000 /\ dx ≠ a /\ h.get? a = some (PySem.W.instObj C dx) /\
   ∃ mA, h.Ns1 dx mA /\ (∀ f, oE (fs.lookup f) (mA f)) /\ PySem.Within mA (fs.map (·.1))
 | .own _ => ∃ o, h.get? a = some o
 | .xd fs => ∃ mA, h.Ns1 a mA /\ ∀ f, oE (fs.lookup f) (mA f)
 | .rng lo hi => ∃ t u v, h.get? a = some { cls := .type "range", data := .fields #[.int lo t, .int hi u, .int 1 v] }
 | .frz o u => h.get? a = some o /\ bo H h a u
 | .tbl ps => h.get? a = some { cls := .none, data := .fields ps }
 | .met f x => h.get? a = some (PySem.W.methodObj (.ref f) (.ref x))
 | .ext φ => φ h /\ (∃ o, h.get? a = some o) /\ ∀ h1 h2 : Heap, φ h1 -> (∀ o, h1.get? a = some o -> h2.get? a = some o) -> φ h2
def HOk (H : Hp) (h : Heap) : Prop := ∀ a o, H a = some o -> bo P w H h a o
end
section
variable {P : Program} {w : World} {H H' : Hp} {h h' : Heap} {a : Addr} {o : HO}
theorem bo.lt (x : bo P w H h a o) : a < h.objs.size := by
 cases o with
 | lst xs => obtain ⟨_, _, _, _, e⟩ := x; exact Heap.lt_size e
 | tup xs => obtain ⟨_, _, _, p⟩ := x; exact p.1.lt
 | dK kvs => obtain ⟨_, _, _, _, o, _, _, e, _⟩ := x; exact Heap.lt_size e
 | dT kvs => obtain ⟨_, _, _, _, o, _, _, e, _⟩ := x; exact Heap.lt_size e
 | set S n => obtain ⟨o, _, _, _, e, _⟩ := x; exact Heap.lt_size e
 | ins C dx fs => obtain ⟨_, _, _, e, _⟩ := x; exact Heap.lt_size e
 | own y => obtain ⟨_, e⟩ := x; exact Heap.lt_size e
 | xd fs => obtain ⟨_, ⟨_, _, _, e, _⟩, _⟩ := x; exact Heap.lt_size e
 | rng lo hi => obtain ⟨_, _, _, e⟩ := x; exact Heap.lt_size e
 | frz ob u => obtain ⟨e, _⟩ := x; exact Heap.lt_size e
 | tbl ps => exact Heap.lt_size (show h.get? a = some _ from x)
 | met f y => exact Heap.lt_size (show h.get? a = some _ from x)
 | ext φ => obtain ⟨_, ⟨_, e⟩, _⟩ := x; exact Heap.lt_size e
theorem Paired.mapP {α β : Type} {F G : α -> β -> Prop} : ∀ {l₁ : List α} {l₂ : List β}, Paired F l₁ l₂ -> (∀ a b, F a b -> G a b) -> Paired G l₁ l₂
 | _, _, .nil, _ => .nil
 | _, _, .cons r t, f => .cons (f _ _ r) (Paired.mapP t f)
theorem bo.stay (x : bo P w H h a o) (k : ∀ b u, (b = a \/ H b = some (.own a)) -> h.get? b = some u -> h'.get? b = some u)
  (ho : ∀ b, H b = some (.own a) -> H' b = some (.own a)) (ht : ∀ b xs, H b = some (.tup xs) -> H' b = some (.tup xs)) : bo P w H' h' a o := by
 induction o with
 | lst xs => obtain ⟨z, its, n, r, e⟩ := x; exact ⟨z, its, n, r, k _ _ (.inl rfl) e⟩
 | tup xs => obtain ⟨z, its, r, ⟨ob, e, c⟩, od, e2, c2⟩ := x; exact ⟨z, its, r, ⟨ob, k _ _ (.inl rfl) e, c⟩, od, k _ _ (.inl rfl) e2, c2⟩
 | dK kvs => obtain ⟨z, y, vs, r, ob, es, ep, e, c⟩ := x; exact ⟨z, y, vs, r, ob, es, ep, k _ _ (.inl rfl) e, c⟩
 | dT kvs =>
  obtain ⟨z, y, xs, r, ob, es, ep, e, c⟩ := x
  exact ⟨z, y, xs, Paired.mapP r fun p q z => ⟨z.1, ht _ _ z.2.1, z.2.2⟩, ob, es, ep, k _ _ (.inl rfl) e, c⟩
 | set S n => obtain ⟨ob, es, ep, t, e, c⟩ := x; exact ⟨ob, es, ep, t, k _ _ (.inl rfl) e, c⟩
 | ins C dx fs =>
  obtain ⟨d, z, ne, e, mA, ⟨od, es, ep, e2, c⟩, r⟩ := x
  exact ⟨ho _ d, z, ne, k _ _ (.inl rfl) e, mA, ⟨od, es, ep, k _ _ (.inr d) e2, c⟩, r⟩
 | own y => obtain ⟨ob, e⟩ := x; exact ⟨ob, k _ _ (.inl rfl) e⟩
 | xd fs => obtain ⟨mA, ⟨od, es, ep, e, c⟩, r⟩ := x; exact ⟨mA, ⟨od, es, ep, k _ _ (.inl rfl) e, c⟩, r⟩
 | rng lo hi => obtain ⟨t, u, v, e⟩ := x; exact ⟨t, u, v, k _ _ (.inl rfl) e⟩
 | frz ob u ih => obtain ⟨e, q⟩ := x; exact ⟨k _ _ (.inl rfl) e, ih q⟩
 | tbl ps =>
  have e : h.get? a = some { cls := .none, data := .fields ps } := x
  show h'.get? a = some { cls := .none, data := .fields ps }
  exact k a _ (.inl rfl) e
 | met f y =>
  have e : h.get? a = some (PySem.W.methodObj (.ref f) (.ref y)) := x
  show h'.get? a = some (PySem.W.methodObj (.ref f) (.ref y))
  exact k a _ (.inl rfl) e
 | ext φ => obtain ⟨p, ⟨o, e⟩, st⟩ := x; exact ⟨st _ _ p fun o q => k _ _ (.inl rfl) q, ⟨o, k _ _ (.inl rfl) e⟩, st⟩
theorem HOk.lt (x : HOk P w H h) (e : H a = some o) : a < h.objs.size := (x a o e).lt
theorem HOk.fresh (x : HOk P w H h) (e : h.objs.size <= a) : H a = none := by
 cases q : H a with
 | none => rfl
 | some u => exact absurd (Nat.lt_of_lt_of_le (x.lt q) e) (Nat.lt_irrefl _)
theorem HOk.kept (x : HOk P w H h) (k : ∀ b u, h.get? b = some u -> h'.get? b = some u) : HOk P w H h' := fun a o e =>
 (x a o e).stay (fun b u _ q => k b u q) (fun _ q => q) fun _ _ q => q
theorem HOk.laid (x : HOk P w H h) (k : ∀ b u, h.get? b = some u -> h'.get? b = some u) (hp : h.objs.size <= a) (new : bo P w (upd H a o) h' a o) : HOk P w (upd H a o) h' := fun b u e => by
 have hn := x.fresh hp
 by_cases hb : b = a
 ·subst hb; rw [ad] at e; cases e; exact new
 ·rw [aE hb] at e
  exact (x b u e).stay (fun c v _ q => k c v q) (fun c q => by rw [aE (am q hn)]; exact q) fun c xs q => by rw [aE (am q hn)]; exact q
end
def Rd (H : Hp) (a : Addr) (u : HO) : Prop := H a = some u \/ ∃ o, H a = some (.frz o u)
theorem Rd.ok {P : Program} {w : World} {H : Hp} {h : Heap} {a : Addr} {u : HO} (r : Rd H a u) (x : HOk P w H h) : bo P w H h a u := by
 rcases r with r | ⟨o, r⟩
 ·exact x a u r
 ·obtain ⟨_, q⟩ := x a _ r
  exact q
def Mut : Option HO -> Prop
 | some (.lst _) => True
 | some (.dK _) => True
 | some (.dT _) => True
 | some (.set _ _) => True
 | some (.ins _ _ _) => True
 | some (.ext _) => True
 | _ => False
section
variable {P : Program} {w : World} {H : Hp} {h h' : Heap} {x e : Addr} {o' : HO}
theorem HOk.write (ok : HOk P w H h) (mu : Mut (H x)) (he : e = x \/ H e = some (.own x)) (k : ∀ b u, b ≠ e -> h.get? b = some u -> h'.get? b = some u) (heo : ∃ u, h'.get? e = some u)
  (new : bo P w (upd H x o') h' x o') : HOk P w (upd H x o') h' := fun b u q => by
 have nown : ∀ c y, H c = some (.own y) -> c ≠ x := fun c y r z => by subst z; rw [r] at mu; exact mu
 have ntup : ∀ c xs, H c = some (.tup xs) -> c ≠ x := fun c xs r z => by subst z; rw [r] at mu; exact mu
 by_cases hb : b = x
 ·subst hb; rw [ad] at q; cases q; exact new
 ·rw [aE hb] at q
  by_cases hbe : b = e
  ·have q' : H b = some (.own x) := by
    rcases he with z | z
    ·exact absurd (hbe.trans z) hb
    ·rw [hbe]; exact z
   rw [q] at q'; cases q'
   obtain ⟨v, hv⟩ := heo
   exact ⟨v, by rw [hbe]; exact hv⟩
  ·refine (ok b u q).stay (fun c v hc r => k c v ?_ r) (fun c r => by rw [aE (nown c b r)]; exact r) fun c xs r => by rw [aE (ntup c xs r)]; exact r
   rcases hc with rfl | hc
   ·exact hbe
   ·rintro rfl
    rcases he with z | z
    ·exact nown c b hc z
    ·rw [hc] at z; cases z; exact hb rfl
end
structure Un (fs ex : List Addr) (H H' : Hp) (h h' : Heap) : Prop where
 keep : ∀ b o, h.get? b = some o -> H b = none -> b ∉ fs -> b ∉ ex -> h'.get? b = some o
 slot : ∀ b o, h.get? b = some o -> H b = none -> b ∈ fs -> b ∉ ex -> ∃ sl, h'.get? b = some { o with slots := sl }
 free : ∀ b o, h.get? b = some o -> H b = none -> b ∉ ex -> H' b = none
 there : ∀ b o, h.get? b = some o -> b ∉ ex -> ∃ o', h'.get? b = some o'
 tups : ∀ b xs, H b = some (.tup xs) -> H' b = some (.tup xs)
 frzs : ∀ b o u, H b = some (.frz o u) -> H' b = some (.frz o u)
 tbls : ∀ b ps, H b = some (.tbl ps) -> ∃ more, H' b = some (.tbl (ps ++ more))
section
variable {fs fs' ex ex' : List Addr} {H H1 H2 : Hp} {h h1 h2 h' : Heap} {a x e : Addr} {o : HO}
theorem Un.any (u : Un fs ex H H1 h h1) {b : Addr} {ob : Obj} (q : h.get? b = some ob) (n : H b = none) (hx : b ∉ ex) : ∃ sl, h1.get? b = some { ob with slots := sl } := by
 by_cases hb : b ∈ fs
 ·exact u.slot b ob q n hb hx
 ·exact ⟨ob.slots, u.keep b ob q n hb hx⟩
theorem Un.kept (k : ∀ b u, h.get? b = some u -> h'.get? b = some u) : Un fs ex H H h h' :=
 ⟨fun b ob q _ _ _ => k b ob q, fun b ob q _ _ _ => ⟨ob.slots, k b ob q⟩, fun _ _ _ n _ => n, fun b ob q _ => ⟨ob, k b ob q⟩, fun _ _ q => q, fun _ _ _ q => q, fun _ ps q => ⟨#[], by rw [q]; simp⟩⟩
theorem Un.refl : Un fs ex H H h h := Un.kept fun _ _ q => q
theorem Un.laid (k : ∀ b u, h.get? b = some u -> h'.get? b = some u) (hp : h.objs.size <= a) (hn : H a = none) : Un fs ex H (upd H a o) h h' where
 keep := fun b u q _ _ _ => k b u q
 slot := fun b u q _ _ _ => ⟨u.slots, k b u q⟩
 free := fun b u q n _ => by rw [aE (Nat.ne_of_lt (Nat.lt_of_lt_of_le (Heap.lt_size q) hp))]; exact n
 there := fun b u q _ => ⟨u, k b u q⟩
 tups := fun b xs q => by rw [aE (am q hn)]; exact q
 frzs := fun b u xs q => by rw [aE (am q hn)]; exact q
 tbls := fun b ps q => ⟨#[], by rw [aE (am q hn), q]; simp⟩
theorem Un.write (mu : Mut (H x)) (he : e = x \/ H e = some (.own x)) (k : ∀ b u, b ≠ e -> h.get? b = some u -> h'.get? b = some u) (heo : ∃ u, h'.get? e = some u) : Un fs ex H (upd H x o) h h' := by
 have hx : ∀ b, H b = none -> b ≠ x := fun b n z => by subst z; rw [n] at mu; exact mu
 have hb : ∀ b, H b = none -> b ≠ e := fun b n z => by
  subst z
  rcases he with r | r
  ·exact hx b n r
  ·rw [n] at r; cases r
 have hm : ∀ b u, H b = some u -> ¬ Mut (some u) -> b ≠ x := fun b u q nm z => by subst z; rw [q] at mu; exact nm mu
 refine ⟨fun b u q n _ _ => k b u (hb b n) q, fun b u q n _ _ => ⟨u.slots, k b u (hb b n) q⟩, fun b u q n _ => by rw [aE (hx b n)]; exact n, fun b u q _ => ?_,
  fun b xs q => by rw [aE (hm b _ q fun z => z)]; exact q, fun b u xs q => by rw [aE (hm b _ q fun z => z)]; exact q, fun b ps q => ⟨#[], by rw [aE (hm b _ q fun z => z), q]; simp⟩⟩
 by_cases hbe : b = e
 ·subst hbe; exact heo
 ·exact ⟨u, k b u hbe q⟩
end
def trk (h : Heap) (H : Hp) : List Addr := (List.range h.objs.size).filter fun a => (H a).isSome
def kM (h : Heap) (H : Hp) : Heap := PySem.W.hideAll h (trk h H)
theorem qI (h : Heap) (H : Hp) : (kM h H).objs.size = h.objs.size := PySem.W.hideAll_size _ _
theorem rf {h : Heap} {H : Hp} {b : Addr} {o : Obj} (e : h.get? b = some o) (n : H b = none) : (kM h H).get? b = some o :=
 PySem.W.hideAll_get _ e fun hm => by
  have q : (H b).isSome = true := (List.mem_filter.mp hm).2
  rw [n] at q; simp at q
theorem uo {h : Heap} {H : Hp} {b : Addr} {o : Obj} (e : (kM h H).get? b = some o) : h.get? b = some o /\ H b = none := by
 have e' : h.get? b = some o := PySem.W.of_hideAll (trk h H) e
 refine ⟨e', ?_⟩
 cases q : H b with
 | none => rfl
 | some x =>
  have hm : b ∈ trk h H := List.mem_filter.mpr ⟨List.mem_range.mpr (Heap.lt_size e'), by simp [q]⟩
  have z : (kM h H).get? b = none := PySem.W.hideAll_none (trk h H) hm
  rw [z] at e; cases e
def hU (g h : Heap) (L : Addr) : List (Addr × Obj) := (List.range h.objs.size).filterMap fun a => if a = L \/ (g.get? a).isSome = true then none else (h.get? a).map fun o => (a, o)
theorem lN {g h : Heap} {L a : Addr} {o : Obj} (h1 : a ≠ L) (h2 : g.get? a = none) (h3 : h.get? a = some o) : (a, o) ∈ hU g h L :=
 List.mem_filterMap.mpr ⟨a, List.mem_range.mpr (Heap.lt_size h3), by simp [h1, h2, h3]⟩
theorem il {g h : Heap} {L : Addr} {p : Addr × Obj} (hp : p ∈ hU g h L) : p.1 ≠ L /\ g.get? p.1 = none /\ h.get? p.1 = some p.2 := by
 obtain ⟨b, _, e⟩ := List.mem_filterMap.mp hp
 split at e
 ·cases e
 ·rename_i hn
  cases q : h.get? b with
  | none => rw [q] at e; simp at e
  | some u =>
   rw [q] at e
   simp only [Option.map_some, Option.some.injEq] at e
   subst e
   refine ⟨fun z => hn (.inl z), ?_, q⟩
   show g.get? b = none
   cases r : g.get? b with
   | none => rfl
   | some v => exact (hn (.inr (by simp [r]))).elim
theorem su {g h : Heap} {L : Addr} : News g L h (hU g h L) := fun p hp => let ⟨a, b, c⟩ := il hp; ⟨c, a, b⟩
structure Mod (K : PySem.W.Frag) (mg : Str -> Option Value) (base : Heap) : Prop where
 kin : K.In base
 glob : base.Ns mainGlobals mg
 blt : ∃ mb, base.Ns builtinsNs mb /\ ∀ x : Str, x ≠ "__name__" -> mb x = bootBuiltins x
 nolimit : base.NoLimit
structure Cx where
 prog : Program
 w : World
 K : PySem.W.Frag
 mg : Str -> Option Value
 base : Heap
 A : Around
 N : List Str
 s₀ : Shared
 H₀ : Hp
 env : Env
 outer : List Env
 stack : List Env
 ex : List Addr
 fn : Str -> Bool
 calm : Bool
 pn : List (Addr × Obj)
 xe : Value -> Shared -> Prop
def frs (l : List Env) : List Addr := l.filterMap (·.frame)
abbrev Cx.fs (X : Cx) : List Addr := frs X.outer
def Vis (sc : Scope) (x : Str) : Prop := sc.names.lookup x = some .local \/ sc.names.lookup x = some .cell \/ sc.names.lookup x = some .free
def Loc (sc : Scope) (x : Str) : Prop := sc.names.lookup x = some .local \/ sc.names.lookup x = some .cell
def yp (env : Env) (h : Heap) (m : Str -> Option Value) (x : Str) (u : Value) : Prop :=
 (env.kindOf x = some .local /\ m x = some u) \/ ((env.kindOf x = some .cell \/ env.kindOf x = some .free) /\ ∃ c, env.cells.lookup x = some c /\ h.IsCell c (some u))
structure Cx.Ok (X : Cx) : Prop where
 mod : Mod X.K X.mg X.base
 kind : X.env.scope.kind = .function
 glob : X.env.globals = mainGlobals
 blt : X.env.builtins = builtinsNs
 above : X.s₀.heap.objs.size <= X.env.locals
 inj : ∀ x y c, X.env.cells.lookup x = some c -> X.env.cells.lookup y = some c -> x = y
 has : ∀ x, (X.env.kindOf x = some .cell \/ X.env.kindOf x = some .free) -> ∃ c, X.env.cells.lookup x = some c
 cab : ∀ x c, X.fn x = true -> X.env.cells.lookup x = some c -> X.s₀.heap.objs.size <= c
 hd : X.calm = true -> X.A.handled = none
 frames : X.A.frames = some X.stack
 stk : X.stack = X.outer \/ (X.stack = X.env :: X.outer /\ X.env.frame = some X.env.locals)
 exf : ∀ b ∈ X.ex, b ≠ X.env.locals /\ ∀ x c, X.env.cells.lookup x = some c -> c ≠ b
 bs : ∀ b o, X.base.get? b = some o -> X.s₀.heap.get? b = some o /\ X.H₀ b = none
 bsz : X.base.objs.size <= X.s₀.heap.objs.size
 noex : ∀ b o, X.base.get? b = some o -> b ∉ X.ex
 exfs : ∀ b ∈ X.ex, b ∉ X.fs
 funs : X.s₀.heap.FunFrames X.base X.outer
 frf : ∀ b ∈ X.fs, X.H₀ b = none
structure Inv (X : Cx) (pins : List (Addr × Obj)) (σ : List (Option V)) (H : Hp) (s : Shared) : Prop where
 ok : X.Ok
 os : s.os = X.s₀.os
 bare : AllBare s.gens
 base : Un X.fs X.ex X.H₀ H X.s₀.heap s.heap
 loc : ∃ m, s.heap.Ns X.env.locals m /\ ∀ (i : Nat) (x : Str) (v : V), X.N[i]? = some x -> σ[i]? = some (some v) -> Vis X.env.scope x -> ∃ u, aQ v u /\ yp X.env s.heap m x u
 cell : ∀ x c, X.env.cells.lookup x = some c -> ∃ v, s.heap.IsCell c v
 free : H X.env.locals = none
 freeC : ∀ x c, X.env.cells.lookup x = some c -> H c = none
 pin : ∀ p ∈ X.pn ++ pins, s.heap.get? p.1 = some p.2 /\ H p.1 = none /\ p.1 ≠ X.env.locals /\ p.1 ∉ X.fs /\ ∀ v, p.2.data ≠ .cell v
 hok : HOk X.prog X.w H s.heap
 len : σ.length = X.N.length
section
variable {X : Cx} {pins : List (Addr × Obj)} {σ : List (Option V)} {H H' : Hp} {s : Shared} {h' : Heap}
theorem Cx.Ok.nofr (ok : X.Ok) {b : Addr} {o : Obj} (e : X.base.get? b = some o) : b ∉ X.fs := fun hb => by
 have := (ok.funs.mem hb).1
 rw [e] at this; cases this
theorem Inv.bs (I : Inv X pins σ H s) : ∀ b o, X.base.get? b = some o -> s.heap.get? b = some o /\ H b = none := fun b o e =>
 ⟨I.base.keep b o (I.ok.bs b o e).1 (I.ok.bs b o e).2 (I.ok.nofr e) (I.ok.noex b o e), I.base.free b o (I.ok.bs b o e).1 (I.ok.bs b o e).2 (I.ok.noex b o e)⟩
theorem Inv.bk (I : Inv X pins σ H s) : ∀ b o, X.base.get? b = some o -> s.heap.get? b = some o := fun b o e => (I.bs b o e).1
theorem Inv.mod (I : Inv X pins σ H s) : Mod X.K X.mg X.base := I.ok.mod
theorem Inv.kIn (I : Inv X pins σ H s) : X.K.In s.heap := I.ok.mod.kin.keeps I.bk
theorem Inv.lt (I : Inv X pins σ H s) : X.env.locals < s.heap.objs.size := let ⟨_, hn, _⟩ := I.loc; hn.lt
theorem Inv.sz (I : Inv X pins σ H s) : X.s₀.heap.objs.size <= s.heap.objs.size := Nat.le_trans I.ok.above (Nat.le_of_lt I.lt)
theorem Inv.nofs (I : Inv X pins σ H s) {a : Addr} (h : s.heap.objs.size <= a) : a ∉ X.fs := fun hb => by
 obtain ⟨_, o, ho, _⟩ := I.ok.funs.mem hb
 exact absurd (Nat.lt_of_lt_of_le (Heap.lt_size ho) (Nat.le_trans I.sz h)) (Nat.lt_irrefl _)
theorem Inv.cne (I : Inv X pins σ H s) : ∀ x c, X.env.cells.lookup x = some c -> c ≠ X.env.locals := fun x c e z => by
 obtain ⟨v, o, ho, hd⟩ := I.cell x c e
 obtain ⟨m, ⟨o', es, ep, ho', hd', _⟩, _⟩ := I.loc
 rw [z, ho'] at ho; cases ho; rw [hd'] at hd; cases hd
theorem Inv.funs (I : Inv X pins σ H s) : s.heap.FunFrames X.base X.outer := by
 have all : ∀ (l : List Env), (∀ b ∈ frs l, b ∈ X.fs) -> X.s₀.heap.FunFrames X.base l -> s.heap.FunFrames X.base l := by
  intro l
  induction l with
  | nil => intro _ _; trivial
  | cons env r ih =>
   intro hs hl
   obtain ⟨hk, ⟨L, o, hf, hn, ho, hd⟩, hr⟩ := hl
   have hL : L ∈ X.fs := hs L (by unfold frs; rw [List.filterMap_cons, hf]; exact List.mem_cons_self)
   obtain ⟨sl, e⟩ := I.base.slot L o ho (I.ok.frf L hL) hL fun z => I.ok.exfs L z hL
   exact ⟨hk, ⟨L, _, hf, hn, e, hd⟩, ih (fun b hb => hs b (by unfold frs; rw [List.filterMap_cons, hf]; exact List.mem_cons_of_mem _ hb)) hr⟩
 exact all X.outer (fun _ hb => hb) I.ok.funs
theorem Inv.stack (I : Inv X pins σ H s) : s.heap.FunFrames X.base X.stack := by
 rcases I.ok.stk with e | ⟨e, hf⟩
 ·rw [e]; exact I.funs
 ·rw [e]
  obtain ⟨m, hn, _⟩ := I.loc
  refine .cons (by rw [I.ok.kind]; decide) hf hn ?_ I.funs
  exact Heap.get?_none_of_le (Nat.le_trans I.ok.bsz I.ok.above)
theorem Inv.stkSub (I : Inv X pins σ H s) : ∀ b ∈ frs X.stack, b ∈ X.env.locals :: X.fs := fun b hb => by
 rcases I.ok.stk with e | ⟨e, hf⟩
 ·rw [e] at hb; exact List.mem_cons_of_mem _ hb
 ·rw [e] at hb
  unfold frs at hb
  rw [List.filterMap_cons, hf] at hb
  exact hb
theorem Inv.stkFree (I : Inv X pins σ H s) : ∀ b ∈ frs X.stack, H b = none := fun b hb => by
 rcases List.mem_cons.mp (I.stkSub b hb) with e | hb
 ·rw [e]; exact I.free
 ·obtain ⟨_, o, ho, _⟩ := I.ok.funs.mem hb
  exact I.base.free b o ho (I.ok.frf b hb) fun z => I.ok.exfs b z hb
theorem Inv.step {g' : Array GenState} {t' : Nat} {d' : Drawn} {ch : List Addr} (I : Inv X pins σ H s)
  (hch : ∀ b ∈ ch, (b ∈ X.ex \/ X.s₀.heap.objs.size <= b) /\ b ≠ X.env.locals /\ (∀ x c, X.env.cells.lookup x = some c -> c ≠ b) /\ ∀ p ∈ X.pn ++ pins, p.1 ≠ b)
  (keep : ∀ b o, b ≠ X.env.locals -> b ∉ X.fs -> b ∉ ch -> s.heap.get? b = some o -> H b = none -> h'.get? b = some o)
  (slot : ∀ b o, b ≠ X.env.locals -> b ∈ X.fs -> b ∉ ch -> s.heap.get? b = some o -> H b = none -> ∃ sl, h'.get? b = some { o with slots := sl }) (free : ∀ b o, b ∉ ch -> s.heap.get? b = some o -> H b = none -> H' b = none)
  (there : ∀ b o, b ∉ ch -> s.heap.get? b = some o -> ∃ o', h'.get? b = some o')
  (tups : ∀ b xs, H b = some (.tup xs) -> H' b = some (.tup xs)) (frzs : ∀ b o u, H b = some (.frz o u) -> H' b = some (.frz o u)) (tbls : ∀ b ps, H b = some (.tbl ps) -> ∃ more, H' b = some (.tbl (ps ++ more)))
  (ns : ∀ m, s.heap.Ns X.env.locals m -> h'.Ns X.env.locals m) (hok : HOk X.prog X.w H' h') (hg : AllBare g') :
  Inv X pins σ H' { s with heap := h', gens := g', drawn := d', toks := t' } := by
 have neL : ∀ b o, X.s₀.heap.get? b = some o -> b ≠ X.env.locals := fun b o e => Nat.ne_of_lt (Nat.lt_of_lt_of_le (Heap.lt_size e) I.ok.above)
 have neC : ∀ b o, X.s₀.heap.get? b = some o -> b ∉ X.ex -> b ∉ ch := fun b o e hx hb => by
  rcases (hch b hb).1 with z | z
  ·exact hx z
  ·exact absurd (Nat.lt_of_lt_of_le (Heap.lt_size e) z) (Nat.lt_irrefl _)
 have cellK : ∀ x c, X.env.cells.lookup x = some c -> ∀ v, s.heap.IsCell c v -> h'.IsCell c v := fun x c e v ⟨o, ho, hd⟩ => by
  have nch : c ∉ ch := fun z => (hch c z).2.2.1 x c e rfl
  by_cases hc : c ∈ X.fs
  ·obtain ⟨sl, q⟩ := slot c o (I.cne x c e) hc nch ho (I.freeC x c e)
   exact ⟨_, q, hd⟩
  ·exact ⟨o, keep c o (I.cne x c e) hc nch ho (I.freeC x c e), hd⟩
 refine ⟨I.ok, I.os, hg, ⟨fun b o e n hb hx => ?_, fun b o e n hb hx => ?_, fun b o e n hx => ?_, fun b o e hx => ?_, fun b xs e => tups b xs (I.base.tups b xs e), fun b o xs e => frzs b o xs (I.base.frzs b o xs e), fun b ps e => ?_⟩, ?_, fun x c e => ?_, ?_, fun x c e => ?_, fun p hp => ?_, hok, I.len⟩
 ·exact keep b o (neL b o e) hb (neC b o e hx) (I.base.keep b o e n hb hx) (I.base.free b o e n hx)
 ·obtain ⟨sl, e1⟩ := I.base.slot b o e n hb hx
  obtain ⟨sl', e2⟩ := slot b _ (neL b o e) hb (neC b o e hx) e1 (I.base.free b o e n hx)
  exact ⟨sl', e2⟩
 ·obtain ⟨o', e1⟩ := I.base.there b o e hx
  exact free b o' (neC b o e hx) e1 (I.base.free b o e n hx)
 ·obtain ⟨o', e1⟩ := I.base.there b o e hx
  exact there b o' (neC b o e hx) e1
 ·obtain ⟨m1, e1⟩ := I.base.tbls b ps e
  obtain ⟨m2, e2⟩ := tbls b _ e1
  exact ⟨m1 ++ m2, by rw [e2, Array.append_assoc]⟩
 ·obtain ⟨m, hn, hl⟩ := I.loc
  refine ⟨m, ns m hn, fun i x v e1 e2 e3 => ?_⟩
  obtain ⟨u, r, l⟩ := hl i x v e1 e2 e3
  refine ⟨u, r, ?_⟩
  rcases l with l | ⟨k, c, e, z⟩
  ·exact .inl l
  ·exact .inr ⟨k, c, e, cellK x c e _ z⟩
 ·obtain ⟨v, z⟩ := I.cell x c e
  exact ⟨v, cellK x c e v z⟩
 ·obtain ⟨m, ⟨o, _, _, ho, _⟩, _⟩ := I.loc
  exact free _ o (fun z => (hch _ z).2.1 rfl) ho I.free
 ·obtain ⟨v, o, ho, hd⟩ := I.cell x c e
  exact free c o (fun z => (hch c z).2.2.1 x c e rfl) ho (I.freeC x c e)
 ·obtain ⟨e, n, ne, nf, d⟩ := I.pin p hp
  have nch : p.1 ∉ ch := fun z => (hch p.1 z).2.2.2 p hp rfl
  exact ⟨keep p.1 p.2 ne nf nch e n, free p.1 p.2 nch e n, ne, nf, d⟩
theorem Inv.un {t' : Nat} (I : Inv X pins σ H s) (u : Un X.fs [] H H' s.heap h') (hok : HOk X.prog X.w H' h') : Inv X pins σ H' { s with heap := h', toks := t' } := by
 obtain ⟨m, ⟨o, es, ep, ho, r⟩, _⟩ := id I.loc
 obtain ⟨sl, hL⟩ := u.any ho I.free (by simp)
 exact I.step (g' := s.gens) (d' := s.drawn) (ch := []) (fun _ z => nomatch z) (fun b o _ hb _ e n => u.keep b o e n hb (by simp)) (fun b o _ hb _ e n => u.slot b o e n hb (by simp)) (fun b o _ e n => u.free b o e n (by simp)) (fun b o _ e => u.there b o e (by simp)) u.tups u.frzs u.tbls (fun m' hm => by
  obtain ⟨o', es', ep', ho', r'⟩ := hm
  rw [ho] at ho'; cases ho'
  exact ⟨_, es', ep', hL, r'⟩) hok I.bare
theorem Inv.call {g' : Array GenState} {t' : Nat} {d' : Drawn} {ch : List Addr} (I : Inv X pins σ H s) (u : Un (frs X.stack) ch H H' s.heap h') (hok : HOk X.prog X.w H' h') (hg : AllBare g')
  (hch : ∀ b ∈ ch, (b ∈ X.ex \/ X.s₀.heap.objs.size <= b) /\ b ≠ X.env.locals /\ (∀ x c, X.env.cells.lookup x = some c -> c ≠ b) /\ ∀ p ∈ X.pn ++ pins, p.1 ≠ b) :
  Inv X pins σ H' { s with heap := h', gens := g', drawn := d', toks := t' } := by
 obtain ⟨m, ⟨o, es, ep, ho, r⟩, _⟩ := id I.loc
 obtain ⟨sl, hL⟩ := u.any ho I.free fun z => (hch _ z).2.1 rfl
 exact I.step (ch := ch) hch (fun b o hL hb hc e n => u.keep b o e n (fun z => (List.mem_cons.mp (I.stkSub b z)).elim hL hb) hc) (fun b o _ _ hc e n => u.any e n hc) (fun b o hc e n => u.free b o e n hc) (fun b o hc e => u.there b o e hc) u.tups u.frzs u.tbls (fun m' hm => by
  obtain ⟨o', es', ep', ho', r'⟩ := hm
  rw [ho] at ho'; cases ho'
  exact ⟨_, es', ep', hL, r'⟩) hok hg
theorem Inv.turned {t' : Nat} {it : Addr} (I : Inv X pins σ H s) (k : ∀ b o, b ≠ it -> s.heap.get? b = some o -> h'.get? b = some o) (hn : H it = none) (hL : it ≠ X.env.locals)
  (h1 : it ∈ X.ex \/ X.s₀.heap.objs.size <= it) (h2 : ∀ x c, X.env.cells.lookup x = some c -> c ≠ it) (h3 : ∀ p ∈ X.pn ++ pins, p.1 ≠ it) : Inv X pins σ H { s with heap := h', toks := t' } := by
 have nit : ∀ b u, H b = some u -> b ≠ it := fun b u e z => by rw [z, hn] at e; cases e
 refine I.step (g' := s.gens) (d' := s.drawn) (ch := [it]) (fun b hb => ?_) (fun b o _ _ hc e _ => k b o (fun z => hc (by simp [z])) e) (fun b o _ _ hc e _ => ⟨o.slots, k b o (fun z => hc (by simp [z])) e⟩) (fun _ _ _ _ n => n)
  (fun b o hc e => ⟨o, k b o (fun z => hc (by simp [z])) e⟩) (fun _ _ e => e) (fun _ _ _ e => e) (fun b ps e => ⟨#[], by rw [e]; simp⟩) (fun m hm => ?_) (fun b u e => ?_) I.bare
 ·have e : b = it := by simpa using hb
  subst e
  exact ⟨h1, hL, h2, h3⟩
 ·obtain ⟨o, es, ep, ho, r⟩ := hm
  exact ⟨o, es, ep, k _ o (Ne.symm hL) ho, r⟩
 ·refine (I.hok b u e).stay (fun c v hc q => k c v ?_ q) (fun _ q => q) fun _ _ q => q
  rcases hc with z | z
  ·rw [z]; exact nit b u e
  ·exact nit c _ z
theorem Inv.tok (I : Inv X pins σ H s) (t : Nat) : Inv X pins σ H { s with toks := t } := I.un (h' := s.heap) (t' := t) Un.refl I.hok
theorem Inv.kept {t' : Nat} (I : Inv X pins σ H s) (k : ∀ b u, s.heap.get? b = some u -> h'.get? b = some u) : Inv X pins σ H { s with heap := h', toks := t' } := I.un (Un.kept k) (I.hok.kept k)
theorem Inv.laid {a : Addr} {o : HO} {t' : Nat} (I : Inv X pins σ H s) (k : ∀ b u, s.heap.get? b = some u -> h'.get? b = some u) (hp : s.heap.objs.size <= a) (new : bo X.prog X.w (upd H a o) h' a o) :
  Inv X pins σ (upd H a o) { s with heap := h', toks := t' } := I.un (Un.laid k hp (I.hok.fresh hp)) (I.hok.laid k hp new)
theorem Inv.write {x e : Addr} {o : HO} {t' : Nat} (I : Inv X pins σ H s) (mu : Mut (H x)) (he : e = x \/ H e = some (.own x)) (k : ∀ b u, b ≠ e -> s.heap.get? b = some u -> h'.get? b = some u) (heo : ∃ u, h'.get? e = some u)
  (new : bo X.prog X.w (upd H x o) h' x o) : Inv X pins σ (upd H x o) { s with heap := h', toks := t' } := I.un (Un.write mu he k heo) (I.hok.write mu he k heo new)
theorem Inv.weak {σ' : List (Option V)} (I : Inv X pins σ H s) (hl : σ'.length = σ.length) (w : ∀ (i : Nat) v, σ'[i]? = some (some v) -> σ[i]? = some (some v)) : Inv X pins σ' H s :=
 ⟨I.ok, I.os, I.bare, I.base, let ⟨m, hn, hl'⟩ := I.loc; ⟨m, hn, fun i x v e1 e2 e3 => hl' i x v e1 (w i v e2) e3⟩, I.cell, I.free, I.freeC, I.pin, I.hok, hl.trans I.len⟩
theorem Inv.pins_of {pins' : List (Addr × Obj)} (I : Inv X pins σ H s) (h : ∀ p ∈ pins', s.heap.get? p.1 = some p.2 /\ H p.1 = none /\ p.1 ≠ X.env.locals /\ p.1 ∉ X.fs /\ ∀ v, p.2.data ≠ .cell v) : Inv X pins' σ H s :=
 ⟨I.ok, I.os, I.bare, I.base, I.loc, I.cell, I.free, I.freeC, fun p hp => (List.mem_append.mp hp).elim (fun z => I.pin p (List.mem_append_left _ z)) (h p), I.hok, I.len⟩
theorem lj {N : List Str} (hN : N.Nodup) {i j : Nat} {x : Str} (a : N[i]? = some x) (b : N[j]? = some x) : i = j := by
 obtain ⟨h1, e1⟩ := List.getElem?_eq_some_iff.mp a
 obtain ⟨h2, e2⟩ := List.getElem?_eq_some_iff.mp b
 exact (List.getElem_inj hN).mp (e1.trans e2.symm)
theorem jx {M : Model} {A : Around} {E : Value -> Shared -> Prop} {i : Nat} {x : Str} {v : V} {u : Value} {Q : Unit -> Shared -> Prop} (I : Inv X pins σ H s) (hN : X.N.Nodup) (hi : X.N[i]? = some x) (hx : Loc X.env.scope x) (r : aQ v u)
  (h : ∀ s', Inv X pins (σ.set i (some v)) H s' -> (∃ a, Heap.SameBut a s.heap s'.heap /\ (a = X.env.locals \/ X.env.cells.lookup x = some a)) -> Q () s') (hf : X.fn x = true \/ X.env.scope.names.lookup x = some .local := by first | exact .inl rfl | exact .inr rfl | assumption) : wpAny M A (storeName X.env x u) Q E s := by
 obtain ⟨m, hn, hl⟩ := id I.loc
 have hcls : (X.env.scope.kind == .class || (X.env.scope.kind == .module && X.env.locals != X.env.globals)) = false := by rw [I.ok.kind]; rfl
 have hiσ : i < σ.length := by rw [I.len]; exact (List.getElem?_eq_some_iff.mp hi).1
 have cne := I.cne
 have tracked : ∀ {a : Addr} {h' : Heap}, (∃ o, s.heap.get? a = some o /\ H a = none) -> Heap.SameBut a s.heap h' -> HOk X.prog X.w H h' := fun {a h'} ha hs b ob e => by
  obtain ⟨_, _, hfree⟩ := ha
  refine (I.hok b ob e).stay (fun c w' hc q => (hs.2 c ?_).trans q) (fun _ q => q) fun _ _ q => q
  rintro rfl
  rcases hc with rfl | hc
  ·rw [hfree] at e; cases e
  ·rw [hfree] at hc; cases hc
 rcases hx with hk | hk
 ·refine wpAny_storeName_local hk hn (fun h' hn' hs => ?_) hcls
  obtain ⟨oL, _, _, hoL, _⟩ := id hn
  refine h _ ⟨I.ok, I.os, I.bare, ⟨fun b o e n hb hx => ?_, fun b o e n hb hx => ?_, I.base.free, fun b o e hx => ?_, I.base.tups, I.base.frzs, I.base.tbls⟩, ⟨_, hn', fun j y v' e1 e2 e3 => ?_⟩, fun y c e => ?_, I.free, I.freeC, fun p hp => ?_, tracked ⟨oL, hoL, I.free⟩ hs, by simpa using I.len⟩ ⟨_, hs, .inl rfl⟩
  ·exact (hs.2 b (Nat.ne_of_lt (Nat.lt_of_lt_of_le (Heap.lt_size e) I.ok.above))).trans (I.base.keep b o e n hb hx)
  ·obtain ⟨sl, e1⟩ := I.base.slot b o e n hb hx
   exact ⟨sl, (hs.2 b (Nat.ne_of_lt (Nat.lt_of_lt_of_le (Heap.lt_size e) I.ok.above))).trans e1⟩
  ·obtain ⟨o', e1⟩ := I.base.there b o e hx
   exact ⟨o', (hs.2 b (Nat.ne_of_lt (Nat.lt_of_lt_of_le (Heap.lt_size e) I.ok.above))).trans e1⟩
  ·by_cases hj : j = i
   ·subst hj
    rw [hi] at e1; cases e1
    rw [List.getElem?_set_self hiσ] at e2
    cases e2
    exact ⟨u, r, .inl ⟨hk, by simp⟩⟩
   ·rw [List.getElem?_set_ne (Ne.symm hj)] at e2
    obtain ⟨u', r', q⟩ := hl j y v' e1 e2 e3
    refine ⟨u', r', ?_⟩
    rcases q with ⟨k, e⟩ | ⟨k, c, e, z⟩
    ·refine .inl ⟨k, ?_⟩
     have : y ≠ x := fun e => hj (lj hN e1 (e ▸ hi))
     simp [this, e]
    ·exact .inr ⟨k, c, e, z.sameBut hs (cne y c e)⟩
  ·obtain ⟨w', z⟩ := I.cell y c e
   exact ⟨w', z.sameBut hs (cne y c e)⟩
  ·obtain ⟨e, n, ne, nf, d⟩ := I.pin p hp
   exact ⟨(hs.2 p.1 ne).trans e, n, ne, nf, d⟩
 ·have hfn : X.fn x = true := by
   rcases hf with z | z
   ·exact z
   ·rw [z] at hk; cases hk
  obtain ⟨c, hc⟩ := I.ok.has x (.inl hk)
  obtain ⟨w', z⟩ := I.cell x c hc
  refine wpAny_storeName_cell I.ok.kind hk hc z (fun h' hc' hs => ?_)
  obtain ⟨oc, hoc, hocd⟩ := id z
  refine h { s with heap := h' } ⟨I.ok, I.os, I.bare, ⟨fun b o e n hb hx => ?_, fun b o e n hb hx => ?_, I.base.free, fun b o e hx => ?_, I.base.tups, I.base.frzs, I.base.tbls⟩, ⟨m, hn.sameBut hs (Ne.symm (cne x c hc)), fun j y v' e1 e2 e3 => ?_⟩, fun y c' e => ?_, I.free, I.freeC, fun p hp => ?_, tracked ⟨oc, hoc, I.freeC x c hc⟩ hs, by simpa using I.len⟩ ⟨c, hs, .inr hc⟩
  ·exact (hs.2 b (Nat.ne_of_lt (Nat.lt_of_lt_of_le (Heap.lt_size e) (I.ok.cab x c hfn hc)))).trans (I.base.keep b o e n hb hx)
  ·obtain ⟨sl, e1⟩ := I.base.slot b o e n hb hx
   exact ⟨sl, (hs.2 b (Nat.ne_of_lt (Nat.lt_of_lt_of_le (Heap.lt_size e) (I.ok.cab x c hfn hc)))).trans e1⟩
  ·obtain ⟨o', e1⟩ := I.base.there b o e hx
   exact ⟨o', (hs.2 b (Nat.ne_of_lt (Nat.lt_of_lt_of_le (Heap.lt_size e) (I.ok.cab x c hfn hc)))).trans e1⟩
  ·by_cases hj : j = i
   ·subst hj
    rw [hi] at e1; cases e1
    rw [List.getElem?_set_self hiσ] at e2
    cases e2
    exact ⟨u, r, .inr ⟨.inl hk, c, hc, hc'⟩⟩
   ·rw [List.getElem?_set_ne (Ne.symm hj)] at e2
    obtain ⟨u', r', q⟩ := hl j y v' e1 e2 e3
    refine ⟨u', r', ?_⟩
    rcases q with q | ⟨k, c', e, z'⟩
    ·exact .inl q
    ·refine .inr ⟨k, c', e, z'.sameBut hs ?_⟩
     rintro rfl
     exact hj (lj hN e1 (I.ok.inj _ _ _ e hc ▸ hi))
  ·by_cases hcc : c' = c
   ·subst hcc; exact ⟨_, hc'⟩
   ·obtain ⟨w2, z2⟩ := I.cell y c' e
    exact ⟨w2, z2.sameBut hs hcc⟩
  ·obtain ⟨e, n, ne, nf, d⟩ := I.pin p hp
   refine ⟨(hs.2 p.1 ?_).trans e, n, ne, nf, d⟩
   intro q
   rw [q, hoc] at e
   have q' : oc = p.2 := Option.some.inj e
   exact d w' (by rw [<- q']; exact hocd)
theorem iB {M : Model} {A : Around} {E : Value -> Shared -> Prop} {i : Nat} {x : Str} {v : V} {u : Value} {Q : Unit -> Shared -> Prop} (I : Inv X pins σ H s) (hN : X.N.Nodup) (hi : X.N[i]? = some x) (hx : Loc X.env.scope x) (r : aQ v u)
  (h : ∀ s', Inv X pins (σ.set i (some v)) H s' -> Q () s') (hf : X.fn x = true \/ X.env.scope.names.lookup x = some .local := by first | exact .inl rfl | exact .inr rfl | assumption) : wpAny M A (storeName X.env x u) Q E s :=
 jx I hN hi hx r (fun s' I' _ => h s' I') hf
theorem Inv.call' {s' : Shared} {ch : List Addr} (I : Inv X pins σ H s) (ho : s'.os = s.os) (u : Un (frs X.stack) ch H H' s.heap s'.heap) (hok : HOk X.prog X.w H' s'.heap) (hg : AllBare s'.gens)
  (hch : ∀ b ∈ ch, (b ∈ X.ex \/ X.s₀.heap.objs.size <= b) /\ b ≠ X.env.locals /\ (∀ x c, X.env.cells.lookup x = some c -> c ≠ b) /\ ∀ p ∈ X.pn ++ pins, p.1 ≠ b) : Inv X pins σ H' s' := by
 obtain ⟨h', g', d', t', o'⟩ := s'
 have e : o' = s.os := ho
 subst e
 exact I.call (g' := g') (t' := t') (d' := d') u hok hg hch
end
abbrev XK := Value -> Option Addr -> Hp -> Prop
abbrev St := List (Option V)
abbrev VK := V -> Hp -> Prop
abbrev TE := St -> Hp -> VK -> Prop
abbrev TT := St -> Hp -> (Bool -> Hp -> Prop) -> Prop
abbrev TA := St -> Hp -> (List V -> Hp -> Prop) -> Prop
structure dc where
 nx : St -> Hp -> Prop
 rt : VK
 bk : St -> Hp -> Prop := fun _ _ => False
 ct : St -> Hp -> Prop := fun _ _ => False
abbrev TS := dc -> St -> Hp -> Prop
def EP (X : Cx) (pins : List (Addr × Obj)) (σ : St) (Q : VK) (u : Value) (s' : Shared) : Prop := ∃ v H', Inv X pins σ H' s' /\ aQ v u /\ Q v H'
def TP (X : Cx) (pins : List (Addr × Obj)) (σ : St) (Q : Bool -> Hp -> Prop) (b : Bool) (s' : Shared) : Prop := ∃ H', Inv X pins σ H' s' /\ Q b H'
def AP (X : Cx) (pins : List (Addr × Obj)) (σ : St) (Q : List V -> Hp -> Prop) (us : List Value) (s' : Shared) : Prop := ∃ vs H', Inv X pins σ H' s' /\ aL vs us /\ Q vs H'
def SP (X : Cx) (pins : List (Addr × Obj)) (D : dc) (f : Flow) (s' : Shared) : Prop :=
 match f with
 | .next => ∃ σ' H', Inv X pins σ' H' s' /\ D.nx σ' H'
 | .brk => ∃ σ' H', Inv X pins σ' H' s' /\ D.bk σ' H'
 | .cont => ∃ σ' H', Inv X pins σ' H' s' /\ D.ct σ' H'
 | .ret u => ∃ v σ' H', Inv X pins σ' H' s' /\ aQ v u /\ D.rt v H'
def PE (X : Cx) (e : Expr) (t : TE) : Prop :=
 ∀ (pins : List (Addr × Obj)) (s : Shared) (σ : St) (H : Hp) (Q : VK), Inv X pins σ H s -> t σ H Q -> wpAny (model X.prog X.w) X.A (eval e X.env) (EP X pins σ Q) X.xe s
def PT (X : Cx) (e : Expr) (t : TT) : Prop :=
 ∀ (pins : List (Addr × Obj)) (s : Shared) (σ : St) (H : Hp) (Q : Bool -> Hp -> Prop), Inv X pins σ H s -> t σ H Q -> wpAny (model X.prog X.w) X.A (isTrue e X.env (eval e X.env)) (TP X pins σ Q) X.xe s
def PW (X : Cx) (e : Expr) (t : TT) : Prop :=
 ∀ (whole : Sem Value) (pins : List (Addr × Obj)) (s : Shared) (σ : St) (H : Hp) (Q : Bool -> Hp -> Prop), Inv X pins σ H s -> t σ H Q -> wpAny (model X.prog X.w) X.A (isTrue e X.env whole) (TP X pins σ Q) X.xe s
theorem PW.pt {X : Cx} {e : Expr} {t : TT} (h : PW X e t) : PT X e t := h _
def PA (X : Cx) (es : List Expr) (t : TA) : Prop :=
 ∀ (pos : Pos) (pins : List (Addr × Obj)) (s : Shared) (σ : St) (H : Hp) (Q : List V -> Hp -> Prop), Inv X pins σ H s -> t σ H Q -> wpAny (model X.prog X.w) X.A (spliced (backTo pos (starEach es X.env))) (AP X pins σ Q) X.xe s
def PS (X : Cx) (st : Stmt) (t : TS) : Prop :=
 ∀ (pins : List (Addr × Obj)) (s : Shared) (σ : St) (H : Hp) (D : dc), Inv X pins σ H s -> t D σ H -> wpAny (model X.prog X.w) X.A (exec st X.env) (SP X pins D) X.xe s
def PSs (X : Cx) (st : List Stmt) (t : TS) : Prop :=
 ∀ (pins : List (Addr × Obj)) (s : Shared) (σ : St) (H : Hp) (D : dc), Inv X pins σ H s -> t D σ H -> wpAny (model X.prog X.w) X.A (execs st X.env) (SP X pins D) X.xe s
theorem thn {α : Type} {t : Sem α} {Q Q' : α -> Shared -> Prop} {M : Model} {A : Around} {E : Value -> Shared -> Prop} {s : Shared} (h : wpAny M A t Q E s) (hQ : ∀ a s, Q a s -> Q' a s) : wpAny M A t Q' E s := wpAny_mono h hQ fun _ _ x => x
section
variable {X : Cx}
def je (i : Nat) : TE := fun σ H Q => ∃ v, σ[i]? = some (some v) /\ Q v H
def tC (v : V) : TE := fun _ H Q => Q v H
theorem sh {i : Nat} {x : Str} {pos : Pos} (hN : X.N[i]? = some x) (hv : Vis X.env.scope x) (hd : (x == ("__debug__" : Str)) = false := by decide) (hcd : (x == ("__classdict__" : Str)) = false := by decide) : PE X (.Name x pos) (je i) := by
 intro pins s σ H Q I h
 obtain ⟨v, e, h⟩ := h
 obtain ⟨m, hn, hl⟩ := I.loc
 obtain ⟨u, r, l⟩ := hl i x v hN e hv
 have fin : EP X pins σ Q u s := ⟨v, H, I, r, h⟩
 rcases l with ⟨hk, hm⟩ | ⟨hk, c, hc, hcell⟩
 ·exact wpAny_Name (wpAny_loadName_local I.ok.kind hk hn hm fin) hd
 ·rcases hk with hk | hk
  ·exact wpAny_Name (wpAny_loadName_cell I.ok.kind hk hc hcell fin) hd
  ·exact wpAny_Name (wpAny_loadName_free I.ok.kind hk hc hcell fin hcd) hd
theorem ac {i j pos} : PE X (.Constant (.int i) j pos) (tC (.int i)) := fun _ _ _ H _ I h => wpAny_Constant_int ⟨.int i, H, I.tok _, ⟨_, rfl⟩, h⟩
theorem bN {b j pos} : PE X (.Constant (.bool b) j pos) (tC (.bl b)) := fun _ _ _ H _ I h => Constant_bool ⟨.bl b, H, I, rfl, h⟩
theorem nY {j pos} : PE X (.Constant .none j pos) (tC .non) := fun _ _ _ H _ I h => Constant_none ⟨.non, H, I, rfl, h⟩
theorem aD {x j pos} : PE X (.Constant (.str x) j pos) (tC (.str x)) := fun _ _ _ H _ I h => Calls.Constant_str ⟨.str x, H, I.tok _, ⟨_, rfl⟩, h⟩
def Gl (X : Cx) (x : Str) : Prop := X.env.kindOf x = some .globalImplicit
theorem pc {E : Value -> Shared -> Prop} {pins : List (Addr × Obj)} {s : Shared} {σ : St} {H : Hp} {x : Str} {u : Value} {pos : Pos} {Q : Value -> Shared -> Prop} (I : Inv X pins σ H s) (hg : Gl X x) (hm : X.mg x = some u) (h : Q u s)
  (hd : (x == ("__debug__" : Str)) = false := by decide) : wpAny (model X.prog X.w) X.A (eval (.Name x pos) X.env) Q E s :=
 Calls.Name_function_global I.ok.kind hg (Calls.loadGlobal_global (by rw [I.ok.glob]; exact I.mod.glob.keeps I.bk) hm h) hd
theorem eC {E : Value -> Shared -> Prop} {pins : List (Addr × Obj)} {s : Shared} {σ : St} {H : Hp} {x : Str} {u : Value} {pos : Pos} {Q : Value -> Shared -> Prop} (I : Inv X pins σ H s) (hg : Gl X x) (hm : X.mg x = none) (hv : bootBuiltins x = some u) (h : Q u s)
  (hn : x ≠ "__name__" := by decide) (hd : (x == ("__debug__" : Str)) = false := by decide) : wpAny (model X.prog X.w) X.A (eval (.Name x pos) X.env) Q E s := by
 obtain ⟨mb, h1, h2⟩ := I.mod.blt
 exact Calls.Name_function_global I.ok.kind hg (Calls.loadGlobal_builtin (by rw [I.ok.glob]; exact I.mod.glob.keeps I.bk) hm (by rw [I.ok.blt]; exact h1.keeps I.bk) ((h2 x hn).trans hv) h) hd
theorem bG {x : Str} {v : V} {u : Value} {pos : Pos} (hg : Gl X x) (hm : X.mg x = some u) (r : aQ v u) (hd : (x == ("__debug__" : Str)) = false := by decide) : PE X (.Name x pos) (tC v) :=
 fun _ _ _ H _ I h => pc I hg hm ⟨v, H, I, r, h⟩ hd
theorem bX {x : Str} {v : V} {u : Value} {pos : Pos} (hg : Gl X x) (hm : X.mg x = none) (hv : bootBuiltins x = some u) (r : aQ v u) (hn : x ≠ "__name__" := by decide) (hd : (x == ("__debug__" : Str)) = false := by decide) : PE X (.Name x pos) (tC v) :=
 fun _ _ _ H _ I h => eC I hg hm hv ⟨v, H, I, r, h⟩ hn hd
variable {a b : Expr} {ta tb : TE} {pos : Pos}
def tB (t : TE) : TT := fun σ H Q => t σ H fun x H1 => ∃ c, x = .bl c /\ Q c H1
theorem bF {e : Expr} {t : TE} (h : PE X e t) (he : ∀ whole, isTrue e X.env whole = (do let v <- whole; standAt e.pos; holding [v] (truthy v)) := by intro _; rfl) : PT X e (tB t) := by
 intro pins s σ H Q I hw
 refine isTrue_plain (thn (h pins s σ H _ I hw) fun v s1 ⟨x, H1, I1, r1, q1⟩ => ?_) (he _)
 obtain ⟨d, rfl, q⟩ := q1
 cases r1
 exact wpAny_truthy_bool ⟨H1, I1, q⟩
variable {tA tB' : TT} {rest : List Expr}
def sQ (t u : TT) : TT := fun σ H Q => t σ H fun c H1 => if c = true then u σ H1 Q else Q false H1
def tOr (t u : TT) : TT := fun σ H Q => t σ H fun c H1 => if c = true then Q true H1 else u σ H1 Q
def xT (t : TT) : TT := fun σ H Q => t σ H fun c H1 => Q (!c) H1
theorem fU (ha : PT X a tA) : PW X (.BoolOp .And [a] pos) tA := by
 intro wh pins s σ H Q I h
 refine isTrue_and (thn (ha pins s σ H Q I h) fun c s1 e => ?_)
 cases c with
 | true => exact isTrue_and_nil e
 | false => exact e
theorem cj (ha : PT X a tA) : PW X (.BoolOp .Or [a] pos) tA := by
 intro wh pins s σ H Q I h
 refine isTrue_or (thn (ha pins s σ H Q I h) fun c s1 e => ?_)
 cases c with
 | false => exact isTrue_or_nil e
 | true => exact e
theorem fz (ha : PT X a tA) (hb : PW X (.BoolOp .And (b :: rest) pos) tB') : PW X (.BoolOp .And (a :: b :: rest) pos) (sQ tA tB') := by
 intro wh pins s σ H Q I h
 refine isTrue_and (thn (ha pins s σ H _ I h) fun c s1 ⟨H1, I1, q1⟩ => ?_)
 cases c with
 | true => exact hb wh pins s1 σ H1 Q I1 q1
 | false => exact ⟨H1, I1, q1⟩
theorem cD (ha : PT X a tA) (hb : PW X (.BoolOp .Or (b :: rest) pos) tB') : PW X (.BoolOp .Or (a :: b :: rest) pos) (tOr tA tB') := by
 intro wh pins s σ H Q I h
 refine isTrue_or (thn (ha pins s σ H _ I h) fun c s1 ⟨H1, I1, q1⟩ => ?_)
 cases c with
 | true => exact ⟨H1, I1, q1⟩
 | false => exact hb wh pins s1 σ H1 Q I1 q1
theorem bM (ha : PT X a tA) : PT X (.UnaryOp .Not a pos) (xT tA) := by
 intro pins s σ H Q I h
 exact isTrue_not (ha pins s σ H (fun c H1 => Q (!c) H1) I h)
def xJ (ta tb : TE) : TE := fun σ H Q => ta σ H fun x H1 => ∃ c, x = .bl c /\ if c = true then tb σ H1 Q else Q (.bl false) H1
def xw (ta tb : TE) : TE := fun σ H Q => ta σ H fun x H1 => ∃ c, x = .bl c /\ if c = true then Q (.bl true) H1 else tb σ H1 Q
def xc (ta : TE) : TE := fun σ H Q => ta σ H fun x H1 => ∃ c, x = .bl c /\ Q (.bl (!c)) H1
theorem bH {op} {t : TE} (h : PE X a t) : PE X (.BoolOp op [a] pos) t := fun pins s σ H Q I hw => BoolOp_one (h pins s σ H Q I hw)
theorem bm (ha : PE X a ta) (hb : PE X (.BoolOp .And (b :: rest) pos) tb) : PE X (.BoolOp .And (a :: b :: rest) pos) (xJ ta tb) := by
 intro pins s σ H Q I h
 refine BoolOp_and (thn (ha pins s σ H _ I h) fun v s1 ⟨x, H1, I1, r1, q1⟩ => ?_)
 obtain ⟨c, rfl, q1⟩ := q1
 cases r1
 refine wpAny_truthy_bool ?_
 cases c with
 | true => exact hb pins s1 σ H1 Q I1 q1
 | false => exact ⟨.bl false, H1, I1, rfl, q1⟩
theorem wO (ha : PE X a ta) (hb : PE X (.BoolOp .Or (b :: rest) pos) tb) : PE X (.BoolOp .Or (a :: b :: rest) pos) (xw ta tb) := by
 intro pins s σ H Q I h
 refine BoolOp_or (thn (ha pins s σ H _ I h) fun v s1 ⟨x, H1, I1, r1, q1⟩ => ?_)
 obtain ⟨c, rfl, q1⟩ := q1
 cases r1
 refine wpAny_truthy_bool ?_
 cases c with
 | false => exact hb pins s1 σ H1 Q I1 q1
 | true => exact ⟨.bl true, H1, I1, rfl, q1⟩
theorem wy (ha : PE X a ta) : PE X (.UnaryOp .Not a pos) (xc ta) := by
 intro pins s σ H Q I h
 refine UnaryOp_ (thn (ha pins s σ H _ I h) fun v s1 ⟨x, H1, I1, r1, q1⟩ => ?_)
 obtain ⟨c, rfl, q1⟩ := q1
 cases r1
 exact not_of (wpAny_truthy_bool ⟨.bl (!c), H1, I1, rfl, q1⟩)
def tIf (t : TT) (ta tb : TE) : TE := fun σ H Q => t σ H fun c H1 => if c = true then ta σ H1 Q else tb σ H1 Q
theorem rL {c : Expr} (hc : PT X c tA) (ha : PE X a ta) (hb : PE X b tb) : PE X (.IfExp c a b pos) (tIf tA ta tb) := by
 intro pins s σ H Q I h
 refine wpAny_IfExp (thn (hc pins s σ H _ I h) fun d s1 ⟨H1, I1, q1⟩ => ?_)
 cases d with
 | true => exact ha pins s1 σ H1 Q I1 q1
 | false => exact hb pins s1 σ H1 Q I1 q1
end
def SqL (K : PySem.W.Frag) (H : Hp) (a : Addr) (xs : List V) : Prop :=
 Rd H a (.lst xs) \/
  ∃ (o : Obj) (its : Array Value) (n : Nat), K.lookup a = some o /\ o.cls = .type "list" /\ o.dict = none /\ o.data = .seq its n /\ its.size <= sizeLine /\ aL xs its.toList
def SqT (K : PySem.W.Frag) (H : Hp) (a : Addr) (xs : List V) : Prop :=
 Rd H a (.tup xs) \/
  ∃ (o : Obj) (its : Array Value) (n : Nat), K.lookup a = some o /\ o.cls = .type "tuple" /\ o.data = .seq its n /\ its.size <= sizeLine /\ aL xs its.toList
def xS : Value -> Option V
 | .none => some .non
 | .bool b => some (.bl b)
 | .int i _ => some (.int i)
 | .str x _ => some (.str x)
 | .bytes b _ => some (.byt b)
 | .float b _ => some (.flt b)
 | .ref a => some (.ref a)
 | .type n => some (.ty n)
 | _ => none
theorem aQ.abs {x : V} {u : Value} (r : aQ x u) : xS u = some x := by
 cases x with
 | non => cases r; rfl
 | bl _ => cases r; rfl
 | int _ => obtain ⟨t, rfl⟩ := r; rfl
 | str _ => obtain ⟨t, rfl⟩ := r; rfl
 | byt _ => obtain ⟨t, rfl⟩ := r; rfl
 | flt _ => obtain ⟨t, rfl⟩ := r; rfl
 | ref _ => cases r; rfl
 | ty _ => cases r; rfl
theorem aQ.inj {x y : V} {u : Value} (r : aQ x u) (q : aQ y u) : x = y := Option.some.inj (r.abs.symm.trans q.abs)
theorem aL.inj : ∀ {xs ys : List V} {us : List Value}, aL xs us -> aL ys us -> xs = ys
 | _, _, _, .nil, .nil => rfl
 | _, _, _, .cons r t, .cons r' t' => by rw [r.inj r', aL.inj t t']
section
variable {X : Cx} {pins : List (Addr × Obj)} {σ : St} {H : Hp} {s : Shared} {a : Addr} {xs ys : List V}
theorem SqL.of {K : PySem.W.Frag} (h : H a = some (.lst xs)) : SqL K H a xs := .inl (.inl h)
theorem SqT.of {K : PySem.W.Frag} (h : H a = some (.tup xs)) : SqT K H a xs := .inl (.inl h)
theorem Inv.list (I : Inv X pins σ H s) (h : SqL X.K H a xs) : ∃ its : List Value, aL xs its /\ PlainL s.heap a its.toArray /\ xs.length <= sizeLine := by
 rcases h with h | ⟨o, its, n, hk, hc, hd, hs, hz, r⟩
 ·obtain ⟨z, its, n, r, e⟩ := h.ok I.hok
  exact ⟨its, r, ⟨_, n, e, rfl, rfl, rfl⟩, z⟩
 ·refine ⟨its.toList, r, ⟨o, n, I.kIn a o hk, hc, hd, by simpa using hs⟩, ?_⟩
  have e := r.length
  simp only [Array.length_toList] at e
  omega
theorem Inv.tuple (I : Inv X pins σ H s) (h : SqT X.K H a xs) : ∃ its : List Value, aL xs its /\ IsTup s.heap a its.toArray /\ xs.length <= sizeLine := by
 rcases h with h | ⟨o, its, n, hk, hc, hs, hz, r⟩
 ·obtain ⟨z, its, r, p⟩ := h.ok I.hok
  exact ⟨its, r, p.1, z⟩
 ·refine ⟨its.toList, r, ⟨o, I.kIn a o hk, hc, n, by simpa using hs⟩, ?_⟩
  have e := r.length
  simp only [Array.length_toList] at e
  omega
theorem Inv.list_inj (I : Inv X pins σ H s) (h : SqL X.K H a xs) (h' : SqL X.K H a ys) : xs = ys := by
 obtain ⟨its, r, ⟨o, n, e, _, _, d⟩, _⟩ := I.list h
 obtain ⟨its', r', ⟨o', n', e', _, _, d'⟩, _⟩ := I.list h'
 rw [e] at e'; cases e'
 rw [d] at d'
 injection d' with d1 _
 have : its = its' := by simpa using congrArg Array.toList d1
 subst this
 exact r.inj r'
theorem Inv.tuple_inj (I : Inv X pins σ H s) (h : SqT X.K H a xs) (h' : SqT X.K H a ys) : xs = ys := by
 obtain ⟨its, r, ⟨o, e, _, n, d⟩, _⟩ := I.tuple h
 obtain ⟨its', r', ⟨o', e', _, n', d'⟩, _⟩ := I.tuple h'
 rw [e] at e'; cases e'
 rw [d] at d'
 injection d' with d1 _
 have : its = its' := by simpa using congrArg Array.toList d1
 subst this
 exact r.inj r'
end
abbrev Cx.wish (X : Cx) (E : Value -> Shared -> Prop) : Cx := { X with xe := E }
abbrev Cx.nox (X : Cx) : Cx := X.wish fun _ _ => False
theorem Cx.Ok.wish {X : Cx} (ok : X.Ok) (E : Value -> Shared -> Prop) : (X.wish E).Ok :=
 ⟨ok.mod, ok.kind, ok.glob, ok.blt, ok.above, ok.inj, ok.has, ok.cab, ok.hd, ok.frames, ok.stk, ok.exf, ok.bs, ok.bsz, ok.noex, ok.exfs, ok.funs, ok.frf⟩
theorem Cx.Ok.unwish {X : Cx} {E : Value -> Shared -> Prop} (ok : (X.wish E).Ok) : X.Ok :=
 ⟨ok.mod, ok.kind, ok.glob, ok.blt, ok.above, ok.inj, ok.has, ok.cab, ok.hd, ok.frames, ok.stk, ok.exf, ok.bs, ok.bsz, ok.noex, ok.exfs, ok.funs, ok.frf⟩
section
variable {X : Cx} {pins : List (Addr × Obj)} {σ : St} {H : Hp} {s : Shared} {E : Value -> Shared -> Prop}
theorem Inv.wish (I : Inv X pins σ H s) (E : Value -> Shared -> Prop) : Inv (X.wish E) pins σ H s := ⟨I.ok.wish E, I.os, I.bare, I.base, I.loc, I.cell, I.free, I.freeC, I.pin, I.hok, I.len⟩
theorem Inv.unwish (I : Inv (X.wish E) pins σ H s) : Inv X pins σ H s := ⟨I.ok.unwish, I.os, I.bare, I.base, I.loc, I.cell, I.free, I.freeC, I.pin, I.hok, I.len⟩
theorem SP.unwish {D : dc} {f : Flow} {s' : Shared} (h : SP (X.wish E) pins D f s') : SP X pins D f s' := by
 cases f with
 | next => obtain ⟨σ', H', I, q⟩ := h; exact ⟨σ', H', I.unwish, q⟩
 | brk => obtain ⟨σ', H', I, q⟩ := h; exact ⟨σ', H', I.unwish, q⟩
 | cont => obtain ⟨σ', H', I, q⟩ := h; exact ⟨σ', H', I.unwish, q⟩
 | ret u => obtain ⟨v, σ', H', I, r, q⟩ := h; exact ⟨v, σ', H', I.unwish, r, q⟩
theorem PSs.nox {st : List Stmt} {t : TS} (h : PSs X.nox st t) : PSs X st t := fun pins s σ H D I hw =>
 wpAny_mono (h pins s σ H D (I.wish _) hw) (fun _ _ q => q.unwish) fun _ _ z => False.elim z
end
section
variable {X : Cx} {st : Stmt} {rest : List Stmt} {t u : TS} {e : Expr} {te : TE} {pos : Pos}
def vE : TS := fun D σ H => D.nx σ H
def uz (t u : TS) : TS := fun D σ H => t { D with nx := u D } σ H
theorem av : PSs X [] vE := fun _ _ σ H _ I h => wpAny_execs_nil ⟨σ, H, I, h⟩
theorem ae (h1 : PS X st t) (h2 : PSs X rest u) : PSs X (st :: rest) (uz t u) := by
 intro pins s σ H D I h
 refine wpAny_execs_cons (thn (h1 pins s σ H { D with nx := u D } I h) fun f s1 q => ?_)
 cases f with
 | next =>
  obtain ⟨σ', H', I', q⟩ := q
  exact h2 pins s1 σ' H' D I' q
 | ret v => exact q
 | brk => exact q
 | cont => exact q
theorem ah (h1 : PS X st t) : PSs X [st] t := by
 intro pins s σ H D I h
 refine wpAny_execs_cons (thn (h1 pins s σ H D I h) fun f s1 q => ?_)
 cases f with
 | next => exact wpAny_execs_nil q
 | ret v => exact q
 | brk => exact q
 | cont => exact q
theorem Inv.quiet {pins : List (Addr × Obj)} {σ : St} {H : Hp} {s : Shared} (I : Inv X pins σ H s) : interactive X.env = false := by simp [interactive, I.ok.kind]
def wX (te : TE) : TS := fun D σ H => te σ H fun _ H1 => D.nx σ H1
theorem bt (he : PE X e te) (hs : swapsWith e none pos.line X.env = pure false := by rfl) : PS X (.Expr e pos) (wX te) := by
 intro pins s σ H D I h
 exact wpAny_Expr_any (thn (he pins s σ H _ I h) fun v s1 ⟨x, H1, I1, r1, q1⟩ => ⟨σ, H1, I1, q1⟩) I.quiet hs
def wm (te : TE) : TS := fun D σ H => te σ H D.rt
theorem ar (he : PE X e te) : PS X (.Return (some e) pos) (wm te) := by
 intro pins s σ H D I h
 exact wpAny_Return_some (thn (he pins s σ H _ I h) fun v s1 ⟨x, H1, I1, r1, q1⟩ => ⟨x, σ, H1, I1, r1, q1⟩)
def yb (c : TT) (t u : TS) : TS := fun D σ H => c σ H fun b H1 => if b = true then t D σ H1 else u D σ H1
theorem aN {c : Expr} {a b : List Stmt} {tc : TT} (hc : PT X c tc) (ha : PSs X a t) (hb : PSs X b u) : PS X (.If c a b pos) (yb tc t u) := by
 intro pins s σ H D I h
 refine wpAny_If (thn (hc pins s σ H _ I h) fun d s1 ⟨H1, I1, q1⟩ => ?_)
 cases d with
 | true => exact ha pins s1 σ H1 D I1 q1
 | false => exact hb pins s1 σ H1 D I1 q1
end
abbrev TG := V -> St -> Hp -> (St -> Hp -> Prop) -> Prop
abbrev TGs := List V -> St -> Hp -> (St -> Hp -> Prop) -> Prop
def PG (X : Cx) (target : Expr) (t : TG) : Prop :=
 ∀ (pins : List (Addr × Obj)) (s : Shared) (σ : St) (H : Hp) (v : V) (u : Value) (Q : St -> Hp -> Prop), Inv X pins σ H s -> aQ v u -> t v σ H Q ->
  wpAny (model X.prog X.w) X.A (assign target X.env u) (fun _ s' => ∃ σ' H', Inv X pins σ' H' s' /\ Q σ' H') X.xe s
def PGs (X : Cx) (ts : List Expr) (t : TGs) : Prop :=
 ∀ (pins : List (Addr × Obj)) (s : Shared) (σ : St) (H : Hp) (vs : List V) (us : List Value) (Q : St -> Hp -> Prop), Inv X pins σ H s -> aL vs us -> t vs σ H Q ->
  wpAny (model X.prog X.w) X.A (assignInOrder ((assignEach ts X.env).map (·.2)) us) (fun _ s' => ∃ σ' H', Inv X pins σ' H' s' /\ Q σ' H') X.xe s
abbrev vM := V -> V -> V -> Hp -> (Hp -> Prop) -> Prop
def xP (X : Cx) (t : vM) : Prop :=
 ∀ (pins : List (Addr × Obj)) (s : Shared) (σ : St) (H : Hp) (o i v : V) (ov iv u : Value) (Q : Hp -> Prop), Inv X pins σ H s -> aQ o ov -> aQ i iv -> aQ v u -> t o i v H Q ->
  wpAny (model X.prog X.w) X.A (setItem ov iv u) (fun _ s' => ∃ H', Inv X pins σ H' s' /\ Q H') X.xe s
abbrev TIp := V -> V -> Hp -> VK -> Prop
def PIp (X : Cx) (op : Operator) (t : TIp) : Prop :=
 ∀ (pins : List (Addr × Obj)) (s : Shared) (σ : St) (H : Hp) (x y : V) (v u : Value) (Q : VK), Inv X pins σ H s -> aQ x v -> aQ y u -> t x y H Q ->
  wpAny (model X.prog X.w) X.A (inplaceOp op v u) (EP X pins σ Q) X.xe s
section
variable {X : Cx} {pos : Pos}
def dU (i : Nat) : TG := fun v σ H Q => Q (σ.set i (some v)) H
theorem aK {i : Nat} {x : Str} (hN : X.N.Nodup) (hi : X.N[i]? = some x) (hx : Loc X.env.scope x) (hf : X.fn x = true \/ X.env.scope.names.lookup x = some .local := by first | exact .inl rfl | exact .inr rfl | assumption) : PG X (.Name x pos) (dU i) := by
 intro pins s σ H v u Q I r h
 exact wpAny_assign_Name (iB I hN hi hx r (fun s' I' => ⟨_, H, I', h⟩) hf)
def qc : TGs := fun vs σ H Q => vs = [] /\ Q σ H
def gW (t : TG) (u : TGs) : TGs := fun vs σ H Q => ∃ v r, vs = v :: r /\ t v σ H fun σ' H' => u r σ' H' Q
theorem cc : PGs X [] qc := by
 intro pins s σ H vs us Q I r h
 obtain ⟨e, h⟩ := h
 subst e
 cases r
 exact assignInOrder_nil ⟨σ, H, I, h⟩
theorem aT {e : Expr} {es : List Expr} {t : TG} {u : TGs} (h1 : PG X e t) (h2 : PGs X es u)
  (hs : (assignEach (e :: es) X.env).map (·.2) = assign e X.env :: (assignEach es X.env).map (·.2) := by rfl) : PGs X (e :: es) (gW t u) := by
 intro pins s σ H vs us Q I r h
 obtain ⟨v, vr, e1, h⟩ := h
 subst e1
 cases r with
 | cons r rr =>
  rw [hs]
  refine assignInOrder_cons (thn (h1 pins s σ H _ _ _ I r h) fun _ s1 ⟨σ1, H1, I1, q1⟩ => ?_)
  exact h2 pins s1 σ1 H1 _ _ Q I1 rr q1
def uL (K : PySem.W.Frag) (n : Nat) (t : TGs) : TG := fun v σ H Q => ∃ a xs, v = .ref a /\ SqT K H a xs /\ xs.length = n /\ t xs σ H Q
theorem cW {es : List Expr} {k : Nat} {t : TGs} {n : Nat} (hc : X.calm = true) (h : PGs X es t)
  (hn : (assignEach es X.env).length = n := by rfl) (hst : (assignEach es X.env).findIdx? (·.1) = none := by rfl) : PG X (.Tuple es k pos) (uL X.K n t) := by
 intro pins s σ H v u Q I r hw
 obtain ⟨a, xs, e1, hq, hl, hw⟩ := hw
 subst e1
 cases r
 obtain ⟨its, rv, ht, hz⟩ := I.tuple hq
 refine assign_Tuple_tuple (I.ok.hd hc) ht (by simp [hn, <- hl, rv.length]) hst fun h' hx => ?_
 have I1 : Inv X pins σ H { s with heap := h' } := I.kept (t' := s.toks) fun b o e => hx b o (Nat.ne_of_lt (Heap.lt_size e)) e
 exact h pins _ σ H xs _ Q I1 (by simpa using rv) hw
def yn (to ti : TE) (t : vM) : TG := fun v σ H Q => to σ H fun o H1 => ti σ H1 fun i H2 => t o i v H2 fun H3 => Q σ H3
theorem wg {o i : Expr} {to ti : TE} {t : vM} (ho : PE X o to) (hi : PE X i ti) (hs : xP X t)
  (ha : ∀ v, assign (.Subscript o i pos) X.env v = (do
   let ov <- holding [v] (eval o X.env)
   let iv <- holding [v, ov] (eval i X.env)
   standAt pos
   holding [v, ov, iv] (setItem ov iv v)
   release [v, ov, iv] []) := by intro _; rfl) : PG X (.Subscript o i pos) (yn to ti t) := by
 intro pins s σ H v u Q I r h
 rw [ha]
 refine wpAny_bind (wpAny_holding (thn (ho pins s σ H _ I h) fun ov s1 ⟨x, H1, I1, r1, q1⟩ => ?_))
 refine wpAny_bind (wpAny_holding (thn (hi pins s1 σ H1 _ I1 q1) fun iv s2 ⟨y, H2, I2, r2, q2⟩ => ?_))
 refine wpAny_bind (wpAny_standAt (wpAny_bind (wpAny_holding (thn (hs pins s2 σ H2 x y v ov iv u _ I2 r1 r2 r q2) fun _ s3 ⟨H3, I3, q3⟩ => ?_))))
 exact wpAny_release ⟨σ, H3, I3, q3⟩
def uy (te : TE) (g : TG) : TS := fun D σ H => te σ H fun x H1 => g x σ H1 D.nx
theorem wB {tg e : Expr} {te : TE} {g : TG} (he : PE X e te) (hg : PG X tg g) (hs : swapsWithSole [tg] e pos.line X.env = pure false := by rfl) (hw : swappedStores [tg] e X.env = pure none := by rfl)
  (h1 : (assignEach [tg] X.env).map (·.2) = [assign tg X.env] := by rfl) : PS X (.Assign [tg] e pos) (uy te g) := by
 intro pins s σ H D I h
 refine wpAny_Assign_stores (thn (he pins s σ H _ I h) fun v s1 ⟨x, H1, I1, r1, q1⟩ => ?_) hs hw
 rw [h1]
 exact thn (hg pins s1 σ H1 x v _ I1 r1 q1) fun _ s2 q => q
theorem aJ {i : Nat} {x : Str} {e : Expr} {te : TE} {pos' : Pos} (hN : X.N.Nodup) (hi : X.N[i]? = some x) (hx : Loc X.env.scope x) (he : PE X e te) (hs : swapsWith e (some (.Name x pos')) pos.line X.env = pure false := by rfl) (hf : X.fn x = true \/ X.env.scope.names.lookup x = some .local := by first | exact .inl rfl | exact .inr rfl | assumption) :
  PS X (.Assign [.Name x pos'] e pos) (uy te (dU i)) := by
 intro pins s σ H D I h
 refine wpAny_Assign_Name (thn (he pins s σ H _ I h) fun v s1 ⟨y, H1, I1, r1, q1⟩ => ?_) hs
 exact iB I1 hN hi hx r1 (fun s2 I2 => ⟨_, H1, I2, q1⟩) hf
def ya (i : Nat) (te : TE) (ti : TIp) : TS := fun D σ H => ∃ x, σ[i]? = some (some x) /\ te σ H fun y H1 => ti x y H1 fun z H2 => D.nx (σ.set i (some z)) H2
theorem sM {i : Nat} {x : Str} {e : Expr} {te : TE} {op : Operator} {ti : TIp} {pos' : Pos} (hN : X.N.Nodup) (hi : X.N[i]? = some x) (hx : Loc X.env.scope x) (he : PE X e te) (ho : PIp X op ti) (hf : X.fn x = true \/ X.env.scope.names.lookup x = some .local := by first | exact .inl rfl | exact .inr rfl | assumption) :
  PS X (.AugAssign (.Name x pos') op e pos) (ya i te ti) := by
 intro pins s σ H D I h
 obtain ⟨v, e1, h⟩ := h
 obtain ⟨m, hn, hl⟩ := I.loc
 have vis : Vis X.env.scope x := by rcases hx with k | k; exact .inl k; exact .inr (.inl k)
 obtain ⟨u, r, l⟩ := hl i x v hi e1 vis
 refine wpAny_AugAssign_Name ?_
 have go : wpAny (model X.prog X.w) X.A (eval e X.env) (fun w s₂ => wpAny (model X.prog X.w) X.A (inplaceOp op u w) (fun r s₃ => wpAny (model X.prog X.w) X.A (storeName X.env x r) (fun _ => SP X pins D .next) X.xe s₃) X.xe s₂) X.xe s := by
  refine thn (he pins s σ H _ I h) fun w s1 ⟨y, H1, I1, r1, q1⟩ => ?_
  refine thn (ho pins s1 σ H1 v y u w _ I1 r r1 q1) fun z s2 ⟨zv, H2, I2, r2, q2⟩ => ?_
  exact iB I2 hN hi hx r2 (fun s3 I3 => ⟨_, H2, I3, q2⟩) hf
 rcases l with ⟨hk, hm⟩ | ⟨hk, c, hc, hcell⟩
 ·exact wpAny_loadName_local I.ok.kind hk hn hm go
 ·rcases hk with hk | hk
  ·exact wpAny_loadName_cell I.ok.kind hk hc hcell go
  ·rcases hx with k | k
   ·have : X.env.scope.names.lookup x = some .free := hk
    rw [k] at this; cases this
   ·have : X.env.scope.names.lookup x = some .free := hk
    rw [k] at this; cases this
def ipI (f : Int -> Int -> Int) : TIp := fun x y H Q => ∃ i j, x = .int i /\ y = .int j /\ Q (.int (f i j)) H
theorem rP : PIp X .Add (ipI fun i j => i + j) := by
 intro pins s σ H x y v u Q I r1 r2 h
 obtain ⟨i, j, e1, e2, q⟩ := h
 subst e1; subst e2
 obtain ⟨t, rfl⟩ := r1
 obtain ⟨t', rfl⟩ := r2
 exact iadd_int ⟨.int _, H, I.tok _, ⟨_, rfl⟩, q⟩
end
section
variable {X : Cx} {pos : Pos}
def oB (c : TT) (tb : TS) : TS := fun D σ H => ∃ W : Nat -> St -> Hp -> Prop, (∃ m, W m σ H) /\ ∀ m σ H, W m σ H ->
 c σ H fun b H1 => if b = true then ∃ N : St -> Hp -> Prop, (∀ σ' H', N σ' H' -> ∃ m', m' < m /\ W m' σ' H') /\ tb { D with nx := N, ct := N, bk := D.nx } σ H1 else D.nx σ H1
theorem iM {c : Expr} {body : List Stmt} {tc : TT} {tb : TS} (hp : PassesOwn (model X.prog X.w) X.A X.env X.xe) (hc : PT X c tc) (hb : PSs X body tb) : PS X (.While c body [] pos) (oB tc tb) := by
 intro pins s σ H D I h
 obtain ⟨W, ⟨m0, w0⟩, turn⟩ := h
 refine wpAny_While (codeAny_whileLoop (fun n s' => ∃ σ' H', Inv X pins σ' H' s' /\ W n σ' H') ?_ m0 ⟨σ, H, I, w0⟩)
 rintro n s1 ⟨σ1, H1, I1, w1⟩
 refine wpAny_passesOwn hp (thn (hc pins s1 σ1 H1 _ I1 (turn n σ1 H1 w1)) fun b s2 ⟨H2, I2, q2⟩ => ?_)
 cases b with
 | true =>
  obtain ⟨N, hN, q2⟩ := q2
  rw [if_pos rfl]
  refine wpAny_passesOwn hp (thn (hb pins s2 σ1 H2 _ I2 q2) fun f s3 q3 => ?_)
  cases f with
  | next =>
   obtain ⟨σ3, H3, I3, n3⟩ := q3
   obtain ⟨m', hm, w3⟩ := hN σ3 H3 n3
   exact ⟨m', hm, σ3, H3, I3, w3⟩
  | cont =>
   obtain ⟨σ3, H3, I3, n3⟩ := q3
   obtain ⟨m', hm, w3⟩ := hN σ3 H3 n3
   exact ⟨m', hm, σ3, H3, I3, w3⟩
  | brk => exact q3
  | ret v => exact q3
 | false =>
  rw [if_neg Bool.false_ne_true]
  exact wpAny_execs_nil ⟨σ1, H2, I2, q2⟩
end
structure It where
 go : Nat -> Hp -> Prop
 yld : Nat -> Hp -> V -> Hp -> Prop
 stop : Nat -> Hp -> Prop
def iE (X : Cx) (pins : List (Addr × Obj)) (H : Hp) (b : Addr) : Prop :=
 H b = none /\ b ≠ X.env.locals /\ b ∉ X.fs /\ (b ∈ X.ex \/ X.s₀.heap.objs.size <= b) /\ (∀ x c, X.env.cells.lookup x = some c -> c ≠ b) /\ ∀ p ∈ X.pn ++ pins, p.1 ≠ b
theorem Inv.fpOk {X : Cx} {pins : List (Addr × Obj)} {σ : St} {H H' : Hp} {s : Shared} {b : Addr} (I : Inv X pins σ H s) (hb : s.heap.objs.size <= b) (hn : H' b = none) : iE X pins H' b := by
 refine ⟨hn, Nat.ne_of_gt (Nat.lt_of_lt_of_le I.lt hb), I.nofs hb, .inr (Nat.le_trans I.sz hb), fun x c e z => ?_, fun p hp z => ?_⟩
 ·obtain ⟨v, q⟩ := I.cell x c e
  exact absurd (Nat.lt_of_lt_of_le q.lt (by rw [z]; exact hb)) (Nat.lt_irrefl _)
 ·exact absurd (Nat.lt_of_lt_of_le (Heap.lt_size (I.pin p hp).1) (by rw [z]; exact hb)) (Nat.lt_irrefl _)
structure ja (P : Program) (w : World) (K : PySem.W.Frag) (tg : Expr) (J : It) (fp : List Addr) (it : Addr) (tn : Nat -> Heap -> Prop) : Prop where
 mem : it ∈ fp
 obj : ∀ i h, tn i h -> ∀ b ∈ fp, ∃ o, h.get? b = some o /\ ∀ v, o.data ≠ .cell v
 keep : ∀ i h h', tn i h -> (∀ b ∈ fp, ∀ o, h.get? b = some o -> h'.get? b = some o) -> tn i h'
 item : ∀ (X : Cx), X.prog = P -> X.w = w -> X.K = K -> X.calm = true -> ∀ (i : Nat) (pins : List (Addr × Obj)) (s : Shared) (σ : St) (H : Hp) (E : Value -> Shared -> Prop), Inv X pins σ H s -> (∀ b ∈ fp, iE X pins H b) -> tn i s.heap -> J.go i H ->
  wpAny (model P w) X.A (pyNext (.ref it)) (fun r s1 => ∃ u, r = some u /\
   wpAny (model P w) X.A (letOwnedTupleGo tg (.ref it) u) (fun _ s2 => ∃ x H', Inv X pins σ H' s2 /\ aQ x u /\ J.yld i H x H' /\ tn (i + 1) s2.heap /\ ∀ b ∈ fp, H' b = none) E s1) E s
 done : ∀ (X : Cx), X.prog = P -> X.w = w -> X.K = K -> X.calm = true -> ∀ (i : Nat) (pins : List (Addr × Obj)) (s : Shared) (σ : St) (H : Hp) (E : Value -> Shared -> Prop), Inv X pins σ H s -> (∀ b ∈ fp, iE X pins H b) -> tn i s.heap -> J.stop i H ->
  wpAny (model P w) X.A (pyNext (.ref it)) (fun r s1 => r = none /\ Inv X pins σ H s1) E s
 self : ∀ (A : Around) (i : Nat) (s : Shared) (Q : Value -> Shared -> Prop) (E : Value -> Shared -> Prop), tn i s.heap -> Q (.ref it) s -> wpAny (model P w) A (pyIter (.ref it)) Q E s
abbrev TI := St -> Hp -> (It -> Hp -> Prop) -> Prop
def PIE (X : Cx) (pins : List (Addr × Obj)) (σ : St) (tg : Expr) (R : It -> Hp -> Prop) (itv : Value) (s2 : Shared) : Prop :=
 ∃ (it : Addr) (fp : List Addr) (tn : Nat -> Heap -> Prop) (J : It) (H' : Hp), itv = .ref it /\ Inv X pins σ H' s2 /\ ja X.prog X.w X.K tg J fp it tn /\ tn 0 s2.heap /\ (∀ b ∈ fp, iE X pins H' b) /\ R J H'
def PI (X : Cx) (tg iter : Expr) (wi : TI) : Prop :=
 ∀ (pins : List (Addr × Obj)) (s : Shared) (σ : St) (H : Hp) (R : It -> Hp -> Prop), Inv X pins σ H s -> wi σ H R ->
  wpAny (model X.prog X.w) X.A (eval iter X.env) (fun v s1 => wpAny (model X.prog X.w) X.A (pyIter v) (PIE X pins σ tg R) X.xe s1) X.xe s
theorem oX {M : Model} {A : Around} {E : Value -> Shared -> Prop} {s : Shared} {tg : Expr} {it : Addr} {u : Value} {o : Obj} {n : String} {vs : Array Value} {Q : Unit -> Shared -> Prop} (ho : s.heap.get? it = some o) (hc : o.cls = .type n) (hd : o.data = .fields vs)
  (hn : ["enumerate", "zip", "dict_itemiterator", "dict_reverseitemiterator", "odict_iterator", "itertools.zip_longest", "itertools.pairwise"].contains n = false) (hQ : Q () s) : wpAny M A (letOwnedTupleGo tg (.ref it) u) Q E s := by
 unfold letOwnedTupleGo
 cases tg <;> first
  | exact wpAny_pure hQ
  | (cases u <;> first
    | exact wpAny_pure hQ
    | (refine wpAny_bind (wpAny_load ho ?_)
       rw [hc, hd]
       show wpAny M A (if (["enumerate", "zip", "dict_itemiterator", "dict_reverseitemiterator", "odict_iterator", "itertools.zip_longest", "itertools.pairwise"].contains n && vs[0]? == some (rawInt _)) = true then _ else _) Q E s
       rw [if_neg (by intro h; rw [hn, Bool.false_and] at h; cases h)]
       exact wpAny_pure hQ))
def Itl (K : PySem.W.Frag) (a : Addr) : It :=
 ⟨fun i H => ∃ xs x, SqL K H a xs /\ xs[i]? = some x, fun i H x H' => H' = H /\ ∀ xs, SqL K H a xs -> xs[i]? = some x, fun i H => ∃ xs, SqL K H a xs /\ xs.length <= i⟩
def Itt (K : PySem.W.Frag) (a : Addr) : It :=
 ⟨fun i H => ∃ xs x, SqT K H a xs /\ xs[i]? = some x, fun i H x H' => H' = H /\ ∀ xs, SqT K H a xs -> xs[i]? = some x, fun i H => ∃ xs, SqT K H a xs /\ xs.length <= i⟩
def Itr (lo : Int) (n : Nat) : It := ⟨fun i _ => i < n, fun i H x H' => H' = H /\ x = .int (lo + i), fun i _ => n <= i⟩
theorem qg {P : Program} {w : World} {K : PySem.W.Frag} {tg : Expr} (a it : Addr) : ja P w K tg (Itl K a) [it] it (fun i h => h.IsListIter it a i) where
 mem := by simp
 obj := fun i h st b hb => by
  have e : b = it := by simpa using hb
  subst e
  obtain ⟨o, e, c, d⟩ := st
  exact ⟨o, e, fun v z => by rw [d] at z; cases z⟩
 keep := fun i h h' st k => st.at fun o e => k it (by simp) o e
 item := by
  intro X hP hw hK hc i pins s σ H E I hf st hg
  subst hP hw hK
  obtain ⟨xs, x, hq, hx⟩ := hg
  obtain ⟨its, rv, p, hz⟩ := I.list hq
  obtain ⟨u, hu, ru⟩ := rv.get hx
  obtain ⟨f0, f1, f2, f3, f4, f5⟩ := hf it (by simp)
  refine wpAny_pyNext_list_item st p.isList (x := u) (by simpa using hu) fun h' st' sb => ?_
  have I1 : Inv X pins σ H { s with heap := h' } := I.turned (t' := s.toks) (fun b o hb e => (sb.2 b hb).trans e) f0 f1 f3 f4 f5
  obtain ⟨o, e, c, d⟩ := id st'
  exact ⟨u, rfl, oX (s := { s with heap := h' }) e c d (by decide) ⟨x, H, I1, ru, ⟨rfl, fun ys hy => by rw [I.list_inj hy hq]; exact hx⟩, st', fun b hb => (hf b hb).1⟩⟩
 done := by
  intro X hP hw hK hc i pins s σ H E I hf st hg
  subst hP hw hK
  obtain ⟨xs, hq, hx⟩ := hg
  obtain ⟨its, rv, p, hz⟩ := I.list hq
  obtain ⟨f0, f1, f2, f3, f4, f5⟩ := hf it (by simp)
  have hl := rv.length
  exact wpAny_pyNext_list_end (I.ok.hd hc) st p.isList (by simp; omega) fun h' eb => ⟨rfl, I.turned (t' := s.toks) (fun b o hb e => eb b o hb e) f0 f1 f3 f4 f5⟩
 self := fun _ _ _ _ _ st h => wpAny_pyIter_listiter st h
theorem oD {P : Program} {w : World} {K : PySem.W.Frag} {tg : Expr} (a it : Addr) : ja P w K tg (Itt K a) [it] it (fun i h => h.IsTupleIter it a i) where
 mem := by simp
 obj := fun i h st b hb => by
  have e : b = it := by simpa using hb
  subst e
  obtain ⟨o, e, c, d⟩ := st
  exact ⟨o, e, fun v z => by rw [d] at z; cases z⟩
 keep := fun i h h' st k => st.at fun o e => k it (by simp) o e
 item := by
  intro X hP hw hK hc i pins s σ H E I hf st hg
  subst hP hw hK
  obtain ⟨xs, x, hq, hx⟩ := hg
  obtain ⟨its, rv, p, hz⟩ := I.tuple hq
  obtain ⟨u, hu, ru⟩ := rv.get hx
  obtain ⟨f0, f1, f2, f3, f4, f5⟩ := hf it (by simp)
  refine wpAny_pyNext_tuple_item st (show s.heap.IsTuple a its.toArray from p) (x := u) (by simpa using hu) fun h' st' sb => ?_
  have I1 : Inv X pins σ H { s with heap := h' } := I.turned (t' := s.toks) (fun b o hb e => (sb.2 b hb).trans e) f0 f1 f3 f4 f5
  obtain ⟨o, e, c, d⟩ := id st'
  exact ⟨u, rfl, oX (s := { s with heap := h' }) e c d (by decide) ⟨x, H, I1, ru, ⟨rfl, fun ys hy => by rw [I.tuple_inj hy hq]; exact hx⟩, st', fun b hb => (hf b hb).1⟩⟩
 done := by
  intro X hP hw hK hc i pins s σ H E I hf st hg
  subst hP hw hK
  obtain ⟨xs, hq, hx⟩ := hg
  obtain ⟨its, rv, p, hz⟩ := I.tuple hq
  obtain ⟨f0, f1, f2, f3, f4, f5⟩ := hf it (by simp)
  have hl := rv.length
  exact wpAny_pyNext_tuple_end (I.ok.hd hc) st (show s.heap.IsTuple a its.toArray from p) (by simp; omega) fun h' eb => ⟨rfl, I.turned (t' := s.toks) (fun b o hb e => eb b o hb e) f0 f1 f3 f4 f5⟩
 self := fun _ _ _ _ _ st h => wpAny_pyIter_tupleiter st h
theorem nv {P : Program} {w : World} {K : PySem.W.Frag} {tg : Expr} (it : Addr) (lo : Int) (n : Nat) : ja P w K tg (Itr lo n) [it] it (fun i h => IsRangeIter h it (lo + (i : Nat) * 1) ((n : Int) - (i : Nat)) 1) where
 mem := by simp
 obj := fun i h st b hb => by
  have e : b = it := by simpa using hb
  subst e
  exact ⟨_, st, fun v z => by
   have z' : Data.fields _ = Data.cell v := z
   cases z'⟩
 keep := fun i h h' st k => k it (by simp) _ st
 item := by
  intro X hP hw hK hc i pins s σ H E I hf st hg
  subst hP hw hK
  obtain ⟨f0, f1, f2, f3, f4, f5⟩ := hf it (by simp)
  have W := Walks.range (prog := X.prog) (w := X.w) (I.ok.hd hc) it lo 1 n
  refine W.item i s _ _ hg st fun v h' tk hv st' kk => ?_
  obtain ⟨t, rfl⟩ := hv
  have I1 : Inv X pins σ H { s with heap := h', toks := tk } := I.turned (fun b o hb e => kk b o (by simpa using hb) e) f0 f1 f3 f4 f5
  refine ⟨_, rfl, oX (s := { s with heap := h', toks := tk }) (n := "range_iterator") st' rfl rfl (by decide) ⟨.int (lo + i), H, I1, ⟨t, ?_⟩, ⟨rfl, rfl⟩, st', fun b hb => (hf b hb).1⟩⟩
  rw [Int.mul_one]
 done := by
  intro X hP hw hK hc i pins s σ H E I hf st hg
  subst hP hw hK
  obtain ⟨f0, f1, f2, f3, f4, f5⟩ := hf it (by simp)
  exact wpAny_pyNext_range_end (I.ok.hd hc) st (by have : n <= i := hg; omega) fun h' eb => ⟨rfl, I.turned (t' := s.toks) (fun b o hb e => eb b o hb e) f0 f1 f3 f4 f5⟩
 self := fun _ _ _ _ _ st h => wpAny_pyIter_rangeiter st h
section
variable {X : Cx} {tg : Expr}
def xv (K : PySem.W.Frag) (tl : TE) : TI := fun σ H R => tl σ H fun x H1 => ∃ a, x = .ref a /\ (∃ xs, SqL K H1 a xs) /\ R (Itl K a) H1
def yv (K : PySem.W.Frag) (tl : TE) : TI := fun σ H R => tl σ H fun x H1 => ∃ a, x = .ref a /\ (∃ xs, SqT K H1 a xs) /\ R (Itt K a) H1
theorem hV {l : Expr} {tl : TE} (hl : PE X l tl) : PI X tg l (xv X.K tl) := by
 intro pins s σ H R I h
 refine thn (hl pins s σ H _ I h) fun v s1 ⟨x, H1, I1, r1, q1⟩ => ?_
 obtain ⟨a, e, ⟨xs, hq⟩, q⟩ := q1
 subst e
 cases r1
 obtain ⟨its, rv, p, hz⟩ := I1.list hq
 refine wpAny_pyIter_list p.isList ?_
 refine ⟨s1.heap.objs.size, [s1.heap.objs.size], _, _, H1, rfl, I1.kept (t' := s1.toks) fun b o e => Heap.get?_push_of_some _ e, qg a _, ⟨_, Heap.get?_push_size _ rfl, rfl, rfl⟩, fun b hb => ?_, q⟩
 have e : b = s1.heap.objs.size := by simpa using hb
 subst e
 exact I1.fpOk (Nat.le_refl _) (I1.hok.fresh (Nat.le_refl _))
theorem eW {l : Expr} {tl : TE} (hl : PE X l tl) : PI X tg l (yv X.K tl) := by
 intro pins s σ H R I h
 refine thn (hl pins s σ H _ I h) fun v s1 ⟨x, H1, I1, r1, q1⟩ => ?_
 obtain ⟨a, e, ⟨xs, hq⟩, q⟩ := q1
 subst e
 cases r1
 obtain ⟨its, rv, p, hz⟩ := I1.tuple hq
 refine wpAny_pyIter_tuple (show s1.heap.IsTuple a its.toArray from p) ?_
 refine ⟨s1.heap.objs.size, [s1.heap.objs.size], _, _, H1, rfl, I1.kept (t' := s1.toks) fun b o e => Heap.get?_push_of_some _ e, oD a _, ⟨_, Heap.get?_push_size _ rfl, rfl, rfl⟩, fun b hb => ?_, q⟩
 have e : b = s1.heap.objs.size := by simpa using hb
 subst e
 exact I1.fpOk (Nat.le_refl _) (I1.hok.fresh (Nat.le_refl _))
theorem sg {pins : List (Addr × Obj)} {σ : St} {H : Hp} {s : Shared} {R : It -> Hp -> Prop} {E : Value -> Shared -> Prop} {lo hi : Int} {t u v : Tok} {tk : Nat} (I : Inv X pins σ H s) (h1 : -(2 ^ 62) <= lo) (h2 : lo < 2 ^ 62) (h3 : -(2 ^ 62) <= hi) (h4 : hi < 2 ^ 62)
  (q : R (Itr lo (hi - lo).toNat) H) : wpAny (model X.prog X.w) X.A (pyIter (.ref s.heap.objs.size)) (PIE X pins σ tg R) E { s with heap := s.heap.push { cls := .type "range", data := .fields #[.int lo t, .int hi u, .int 1 v] }, toks := tk } := by
 refine wpAny_pyIter_range (IsRange.new ..) (small_one h1 h2 h3 h4) ?_
 have I1 : Inv X pins σ H { s with heap := s.heap.push { cls := .type "range", data := .fields #[.int lo t, .int hi u, .int 1 v] }, toks := tk } := I.kept fun b o e => Heap.get?_push_of_some _ e
 refine ⟨(s.heap.push { cls := .type "range", data := .fields #[.int lo t, .int hi u, .int 1 v] }).objs.size, [(s.heap.push { cls := .type "range", data := .fields #[.int lo t, .int hi u, .int 1 v] }).objs.size], _, _, H, rfl,
  I1.kept (t' := tk) fun b o e => Heap.get?_push_of_some _ e, nv _ lo (hi - lo).toNat, ?_, fun b hb => ?_, q⟩
 ·have e1 : lo + ((0 : Nat) : Int) * 1 = lo := by simp
  have e2 : (((hi - lo).toNat : Nat) : Int) - ((0 : Nat) : Int) = Builtin.Range.rangeSize lo hi 1 := by rw [rangeSize_one]; split <;> omega
  show IsRangeIter _ _ (lo + ((0 : Nat) : Int) * 1) ((((hi - lo).toNat : Nat) : Int) - ((0 : Nat) : Int)) 1
  rw [e1, e2]
  exact Heap.get?_push_size _ rfl
 ·have e : b = (s.heap.push { cls := .type "range", data := .fields #[.int lo t, .int hi u, .int 1 v] }).objs.size := by simpa using hb
  subst e
  exact I1.fpOk (Nat.le_refl _) (I1.hok.fresh (Nat.le_refl _))
def xu (ta : TA) : TI := fun σ H R => ta σ H fun vs H1 => ∃ j : Int, vs = [.int j] /\ -(2 ^ 62) <= j /\ j < 2 ^ 62 /\ R (Itr 0 j.toNat) H1
theorem fb {a : Expr} {ta : TA} {p pos : Pos} (hg : Gl X "range") (hm : X.mg "range" = none) (ha : PA X [a] ta) (hs : starEach [a] X.env = [(false, eval a X.env)] := by rfl) : PI X tg (.Call (.Name "range" p) [a] [] pos) (xu ta) := by
 intro pins s σ H R I h
 refine Call_ (eC I hg hm boot_range (PyProof.Rows.callWith_type1 (thn (ha pos pins s σ H _ I h) fun us s1 ⟨vs, H1, I1, r1, q1⟩ => ?_) hs rfl))
 obtain ⟨j, e, q1, q2, q⟩ := q1
 subst e
 cases r1 with
 | cons r rr =>
  cases rr
  obtain ⟨t, rfl⟩ := r
  exact call_range_1 (sg I1 (by omega) (by omega) q1 q2 (by simpa using q))
def yt (wi : TI) (g : TG) (tb : TS) : TS := fun D σ H => wi σ H fun J H1 => ∃ W : Nat -> Nat -> St -> Hp -> Prop, (∃ m, W 0 m σ H1) /\ ∀ i m σ H, W i m σ H ->
 (J.stop i H /\ D.nx σ H) \/ (J.go i H /\ ∃ N : St -> Hp -> Prop, (∀ σ' H', N σ' H' -> ∃ m', m' < m /\ W (i + 1) m' σ' H') /\ ∀ x H', J.yld i H x H' -> g x σ H' fun σ2 H2 => tb { D with nx := N, ct := N, bk := D.nx } σ2 H2)
def iw (fp : List Addr) (h : Heap) : List (Addr × Obj) := fp.filterMap fun b => (h.get? b).map fun o => (b, o)
theorem eA {fp : List Addr} {h : Heap} {b : Addr} {o : Obj} (hb : b ∈ fp) (e : h.get? b = some o) : (b, o) ∈ iw fp h := List.mem_filterMap.mpr ⟨b, hb, by rw [e]; rfl⟩
theorem qw {fp : List Addr} {h : Heap} {p : Addr × Obj} (hp : p ∈ iw fp h) : p.1 ∈ fp /\ h.get? p.1 = some p.2 := by
 obtain ⟨b, hb, e⟩ := List.mem_filterMap.mp hp
 cases q : h.get? b with
 | none => rw [q] at e; cases e
 | some o =>
  rw [q] at e
  have e' : (b, o) = p := Option.some.inj e
  subst e'
  exact ⟨hb, q⟩
theorem Inv.pinned {pins : List (Addr × Obj)} {σ : St} {H : Hp} {s : Shared} {fp : List Addr} (I : Inv X pins σ H s) (hf : ∀ b ∈ fp, iE X pins H b) (ho : ∀ b ∈ fp, ∃ o, s.heap.get? b = some o /\ ∀ v, o.data ≠ .cell v) : Inv X (pins ++ iw fp s.heap) σ H s :=
 I.pins_of fun p hp => (List.mem_append.mp hp).elim (fun z => I.pin p (List.mem_append_right _ z)) fun z => by
  obtain ⟨hb, e⟩ := qw z
  obtain ⟨f0, f1, f2, _⟩ := hf p.1 hb
  obtain ⟨o, e', d⟩ := ho p.1 hb
  rw [e] at e'; cases e'
  exact ⟨e, f0, f1, f2, d⟩
theorem Inv.unpinned {pins pl : List (Addr × Obj)} {σ : St} {H : Hp} {s : Shared} (I : Inv X (pins ++ pl) σ H s) : Inv X pins σ H s := I.pins_of fun p hp => I.pin p (List.mem_append_right _ (List.mem_append_left _ hp))
theorem cB {iter : Expr} {body : List Stmt} {wi : TI} {g : TG} {tb : TS} {pos : Pos} (hp : PassesOwn (model X.prog X.w) X.A X.env X.xe) (hc : X.calm = true) (hi : PI X tg iter wi) (hg : PG X tg g) (hb : PSs X body tb)
  (hs : ∀ x, foldedSetIterable iter X.env x = pure x := by intro _; rfl) : PS X (.For tg iter body [] pos) (yt wi g tb) := by
 intro pins s σ H D I h
 refine wpAny_For (thn (hi pins s σ H _ I h) fun v s1 h1 => thn h1 fun itv s2 h2 => ?_) hs
 obtain ⟨it, fp, tn, J, H2, e, I2, T, st2, f2, W, ⟨m0, w0⟩, turn⟩ := h2
 subst e
 have stat : ∀ {H' : Hp}, (∀ b ∈ fp, H' b = none) -> ∀ b ∈ fp, iE X pins H' b := fun hn b hb => ⟨hn b hb, (f2 b hb).2⟩
 refine codeAny_forLoop_any (fun n s' => ∃ i σ' H', Inv X pins σ' H' s' /\ tn i s'.heap /\ (∀ b ∈ fp, H' b = none) /\ W i n σ' H') ?_ m0 ⟨0, σ, H2, I2, st2, fun b hb => (f2 b hb).1, w0⟩
 rintro n s3 ⟨i, σ3, H3, I3, st3, fr3, w3⟩
 rcases turn i n σ3 H3 w3 with ⟨stop, qn⟩ | ⟨go, N, hN, step⟩
 ·refine wpAny_passesOwn hp (thn (T.done X rfl rfl rfl hc i pins s3 σ3 H3 X.xe I3 (stat fr3) st3 stop) fun r s4 ⟨hr, I4⟩ => ?_)
  subst hr
  exact wpAny_execs_nil ⟨σ3, H3, I4, qn⟩
 ·refine wpAny_passesOwn hp (thn (T.item X rfl rfl rfl hc i pins s3 σ3 H3 X.xe I3 (stat fr3) st3 go) fun r s4 ⟨u, hr, h4⟩ => ?_)
  subst hr
  refine wpAny_passesOwn hp (thn h4 fun _ s5 ⟨x, H5, I5, r5, y5, st5, fr5⟩ => ?_)
  have I5' := I5.pinned (stat fr5) (T.obj _ _ st5)
  refine wpAny_passesOwn hp (thn (hg _ s5 σ3 H5 x u _ I5' r5 (step x H5 y5)) fun _ s6 ⟨σ6, H6, I6, q6⟩ => ?_)
  refine wpAny_passesOwn hp (thn (hb _ s6 σ6 H6 _ I6 q6) fun f s7 q7 => ?_)
  have again : ∀ {σ7 : St} {H7 : Hp}, Inv X (pins ++ iw fp s5.heap) σ7 H7 s7 -> N σ7 H7 -> ∃ m, m < n /\ ∃ i σ' H', Inv X pins σ' H' s7 /\ tn i s7.heap /\ (∀ b ∈ fp, H' b = none) /\ W i m σ' H' := fun {σ7 H7} I7 n7 => by
   obtain ⟨m', hm, w7⟩ := hN σ7 H7 n7
   refine ⟨m', hm, i + 1, σ7, H7, I7.unpinned, T.keep _ _ _ st5 fun b hb o e => (I7.pin (b, o) (List.mem_append_right _ (List.mem_append_right _ (eA hb e)))).1, fun b hb => ?_, w7⟩
   obtain ⟨o, e, d⟩ := T.obj _ _ st5 b hb
   exact (I7.pin (b, o) (List.mem_append_right _ (List.mem_append_right _ (eA hb e)))).2.1
  cases f with
  | next => obtain ⟨σ7, H7, I7, n7⟩ := q7; exact again I7 n7
  | cont => obtain ⟨σ7, H7, I7, n7⟩ := q7; exact again I7 n7
  | brk => obtain ⟨σ7, H7, I7, q7⟩ := q7; exact ⟨σ7, H7, I7.unpinned, q7⟩
  | ret v => obtain ⟨x7, σ7, H7, I7, r7, q7⟩ := q7; exact ⟨x7, σ7, H7, I7.unpinned, r7, q7⟩
end
theorem mB {K : PySem.W.Frag} {a : Addr} {xs : List V} {g : TG} {tb : TS} {D : dc} {σ : St} {H : Hp} (Pv : Nat -> St -> Hp -> Prop) (h0 : Pv 0 σ H) (hl : ∀ i σ H, i <= xs.length -> Pv i σ H -> SqL K H a xs)
  (hs : ∀ i x σ H, xs[i]? = some x -> Pv i σ H -> g x σ H fun σ2 H2 => tb { D with nx := Pv (i + 1), ct := Pv (i + 1), bk := D.nx } σ2 H2) (hd : ∀ σ H, Pv xs.length σ H -> D.nx σ H) :
  ∃ W : Nat -> Nat -> St -> Hp -> Prop, (∃ m, W 0 m σ H) /\ ∀ i m σ H, W i m σ H ->
   ((Itl K a).stop i H /\ D.nx σ H) \/ ((Itl K a).go i H /\ ∃ N : St -> Hp -> Prop, (∀ σ' H', N σ' H' -> ∃ m', m' < m /\ W (i + 1) m' σ' H') /\ ∀ x H', (Itl K a).yld i H x H' -> g x σ H' fun σ2 H2 => tb { D with nx := N, ct := N, bk := D.nx } σ2 H2) := by
 refine ⟨fun i m σ H => m = xs.length - i /\ i <= xs.length /\ Pv i σ H, ⟨xs.length, by simp, Nat.zero_le _, h0⟩, ?_⟩
 rintro i m σ H ⟨rfl, hi, p⟩
 have q := hl i σ H hi p
 by_cases hlt : i < xs.length
 ·refine .inr ⟨⟨xs, xs[i], q, by simp [hlt]⟩, Pv (i + 1), fun σ' H' p' => ⟨xs.length - (i + 1), by omega, rfl, hlt, p'⟩, fun x H' y => ?_⟩
  obtain ⟨e, y⟩ := y
  subst e
  exact hs i x σ _ (y xs q) p
 ·have e : i = xs.length := by omega
  subst e
  exact .inl ⟨⟨xs, q, Nat.le_refl _⟩, hd σ H p⟩
theorem pd {K : PySem.W.Frag} {a : Addr} {xs : List V} {g : TG} {tb : TS} {D : dc} {σ : St} {H : Hp} (Pv : Nat -> St -> Hp -> Prop) (h0 : Pv 0 σ H) (hl : ∀ i σ H, i <= xs.length -> Pv i σ H -> SqT K H a xs)
  (hs : ∀ i x σ H, xs[i]? = some x -> Pv i σ H -> g x σ H fun σ2 H2 => tb { D with nx := Pv (i + 1), ct := Pv (i + 1), bk := D.nx } σ2 H2) (hd : ∀ σ H, Pv xs.length σ H -> D.nx σ H) :
  ∃ W : Nat -> Nat -> St -> Hp -> Prop, (∃ m, W 0 m σ H) /\ ∀ i m σ H, W i m σ H ->
   ((Itt K a).stop i H /\ D.nx σ H) \/ ((Itt K a).go i H /\ ∃ N : St -> Hp -> Prop, (∀ σ' H', N σ' H' -> ∃ m', m' < m /\ W (i + 1) m' σ' H') /\ ∀ x H', (Itt K a).yld i H x H' -> g x σ H' fun σ2 H2 => tb { D with nx := N, ct := N, bk := D.nx } σ2 H2) := by
 refine ⟨fun i m σ H => m = xs.length - i /\ i <= xs.length /\ Pv i σ H, ⟨xs.length, by simp, Nat.zero_le _, h0⟩, ?_⟩
 rintro i m σ H ⟨rfl, hi, p⟩
 have q := hl i σ H hi p
 by_cases hlt : i < xs.length
 ·refine .inr ⟨⟨xs, xs[i], q, by simp [hlt]⟩, Pv (i + 1), fun σ' H' p' => ⟨xs.length - (i + 1), by omega, rfl, hlt, p'⟩, fun x H' y => ?_⟩
  obtain ⟨e, y⟩ := y
  subst e
  exact hs i x σ _ (y xs q) p
 ·have e : i = xs.length := by omega
  subst e
  exact .inl ⟨⟨xs, q, Nat.le_refl _⟩, hd σ H p⟩
theorem qx {lo : Int} {n : Nat} {g : TG} {tb : TS} {D : dc} {σ : St} {H : Hp} (Pv : Nat -> St -> Hp -> Prop) (h0 : Pv 0 σ H)
  (hs : ∀ i σ H, i < n -> Pv i σ H -> g (.int (lo + i)) σ H fun σ2 H2 => tb { D with nx := Pv (i + 1), ct := Pv (i + 1), bk := D.nx } σ2 H2) (hd : ∀ σ H, Pv n σ H -> D.nx σ H) :
  ∃ W : Nat -> Nat -> St -> Hp -> Prop, (∃ m, W 0 m σ H) /\ ∀ i m σ H, W i m σ H ->
   ((Itr lo n).stop i H /\ D.nx σ H) \/ ((Itr lo n).go i H /\ ∃ N : St -> Hp -> Prop, (∀ σ' H', N σ' H' -> ∃ m', m' < m /\ W (i + 1) m' σ' H') /\ ∀ x H', (Itr lo n).yld i H x H' -> g x σ H' fun σ2 H2 => tb { D with nx := N, ct := N, bk := D.nx } σ2 H2) := by
 refine ⟨fun i m σ H => m = n - i /\ i <= n /\ Pv i σ H, ⟨n, by simp, Nat.zero_le _, h0⟩, ?_⟩
 rintro i m σ H ⟨rfl, hi, p⟩
 by_cases hlt : i < n
 ·refine .inr ⟨hlt, Pv (i + 1), fun σ' H' p' => ⟨n - (i + 1), by omega, rfl, hlt, p'⟩, fun x H' y => ?_⟩
  obtain ⟨e, y⟩ := y
  subst e y
  exact hs i σ _ hlt p
 ·have e : i = n := by omega
  subst e
  exact .inl ⟨Nat.le_refl _, hd σ H p⟩
abbrev R2 := V -> V -> Hp -> VK -> Prop
def OpR (X : Cx) (f : Value -> Value -> Sem Value) (r : R2) : Prop :=
 ∀ (pins : List (Addr × Obj)) (s : Shared) (σ : St) (H : Hp) (x y : V) (v u : Value) (Q : VK), Inv X pins σ H s -> aQ x v -> aQ y u -> r x y H Q ->
  wpAny (model X.prog X.w) X.A (f v u) (EP X pins σ Q) X.xe s
def UnR (X : Cx) (f : Value -> Sem Value) (r : V -> Hp -> VK -> Prop) : Prop :=
 ∀ (pins : List (Addr × Obj)) (s : Shared) (σ : St) (H : Hp) (x : V) (v : Value) (Q : VK), Inv X pins σ H s -> aQ x v -> r x H Q ->
  wpAny (model X.prog X.w) X.A (f v) (EP X pins σ Q) X.xe s
def dP (X : Cx) (f : Value) (r : List V -> Hp -> VK -> Prop) : Prop :=
 ∀ (pins : List (Addr × Obj)) (s : Shared) (σ : St) (H : Hp) (xs : List V) (us : List Value) (Q : VK), Inv X pins σ H s -> aL xs us -> r xs H Q ->
  wpAny (model X.prog X.w) X.A (call f us) (EP X pins σ Q) X.xe s
def yf (X : Cx) (r : V -> Hp -> (Bool -> Hp -> Prop) -> Prop) : Prop :=
 ∀ (pins : List (Addr × Obj)) (s : Shared) (σ : St) (H : Hp) (x : V) (v : Value) (Q : Bool -> Hp -> Prop), Inv X pins σ H s -> aQ x v -> r x H Q ->
  wpAny (model X.prog X.w) X.A (truthy v) (TP X pins σ Q) X.xe s
def tOp (r : R2) (ta tb : TE) : TE := fun σ H Q => ta σ H fun x H1 => tb σ H1 fun y H2 => r x y H2 Q
def tUn (r : V -> Hp -> VK -> Prop) (ta : TE) : TE := fun σ H Q => ta σ H fun x H1 => r x H1 Q
def rI (C : Int -> Int -> Prop) (g : Int -> Int -> V) : R2 := fun x y H Q => ∃ i j, x = .int i /\ y = .int j /\ C i j /\ Q (g i j) H
def rI0 (g : Int -> Int -> V) : R2 := fun x y H Q => ∃ i j, x = .int i /\ y = .int j /\ Q (g i j) H
def rU (g : Int -> V) : V -> Hp -> VK -> Prop := fun x H Q => ∃ i, x = .int i /\ Q (g i) H
section
variable {X : Cx} {a b c : Expr} {ta tb tc : TE} {pos : Pos}
theorem we (ha : PE X a ta) (hb : PE X b tb) {pins : List (Addr × Obj)} {s : Shared} {σ : St} {H : Hp} {R : V -> V -> Hp -> Prop} (I : Inv X pins σ H s)
  (h : ta σ H fun x H1 => tb σ H1 fun y H2 => R x y H2) {Q : Value -> Shared -> Prop} {f : Value -> Value -> Sem Value}
  (hf : ∀ v u s2 x y H2, Inv X pins σ H2 s2 -> aQ x v -> aQ y u -> R x y H2 -> wpAny (model X.prog X.w) X.A (f v u) Q X.xe s2) :
  wpAny (model X.prog X.w) X.A (eval a X.env) (fun v s₁ => wpAny (model X.prog X.w) X.A (eval b X.env) (fun u s₂ => wpAny (model X.prog X.w) X.A (f v u) Q X.xe s₂) X.xe s₁) X.xe s := by
 refine thn (ha pins s σ H _ I h) fun v s1 ⟨x, H1, I1, r1, q1⟩ => ?_
 refine thn (hb pins s1 σ H1 _ I1 q1) fun u s2 ⟨y, H2, I2, r2, q2⟩ => ?_
 exact hf v u s2 x y H2 I2 r1 r2 q2
theorem aA {op : Operator} {r : R2} (ho : OpR X (binaryOp op) r) (ha : PE X a ta) (hb : PE X b tb) : PE X (.BinOp a op b pos) (tOp r ta tb) := by
 intro pins s σ H Q I h
 exact wpAny_BinOp (we ha hb I h fun v u s2 x y H2 I2 rx ry q => ho pins s2 σ H2 x y v u Q I2 rx ry q)
theorem mI {op : UnaryOp} {r : V -> Hp -> VK -> Prop} (ho : UnR X (unaryOp op) r) (ha : PE X a ta) : PE X (.UnaryOp op a pos) (tUn r ta) := by
 intro pins s σ H Q I h
 exact UnaryOp_ (thn (ha pins s σ H _ I h) fun v s1 ⟨x, H1, I1, r1, q1⟩ => ho pins s1 σ H1 x v Q I1 r1 q1)
theorem opI {f : Value -> Value -> Sem Value} {C : Int -> Int -> Prop} {g : Int -> Int -> Int}
  (rule : ∀ (i j : Int) (t u : Tok) (s : Shared) (Q : Value -> Shared -> Prop) (E : Value -> Shared -> Prop), C i j -> Q (.int (g i j) s.toks) { s with toks := s.toks + 1 } -> wpAny (model X.prog X.w) X.A (f (.int i t) (.int j u)) Q E s) :
  OpR X f (rI C fun i j => .int (g i j)) := by
 intro pins s σ H x y v u Q I rx ry h
 obtain ⟨i, j, rfl, rfl, hc, q⟩ := h
 obtain ⟨t, rfl⟩ := rx
 obtain ⟨t', rfl⟩ := ry
 exact rule i j t t' s _ _ hc ⟨.int (g i j), H, I.tok _, ⟨_, rfl⟩, q⟩
theorem xt {f : Value -> Value -> Sem Value} {g : Int -> Int -> Int}
  (rule : ∀ (i j : Int) (t u : Tok) (s : Shared) (Q : Value -> Shared -> Prop) (E : Value -> Shared -> Prop), Q (.int (g i j) s.toks) { s with toks := s.toks + 1 } -> wpAny (model X.prog X.w) X.A (f (.int i t) (.int j u)) Q E s) :
  OpR X f (rI0 fun i j => .int (g i j)) := by
 intro pins s σ H x y v u Q I rx ry h
 obtain ⟨i, j, rfl, rfl, q⟩ := h
 obtain ⟨t, rfl⟩ := rx
 obtain ⟨t', rfl⟩ := ry
 exact rule i j t t' s _ _ ⟨.int (g i j), H, I.tok _, ⟨_, rfl⟩, q⟩
theorem tN {f : Value -> Value -> Sem Value} {g : Int -> Int -> Bool}
  (rule : ∀ (i j : Int) (t u : Tok) (s : Shared) (Q : Value -> Shared -> Prop) (E : Value -> Shared -> Prop), Q (.bool (g i j)) s -> wpAny (model X.prog X.w) X.A (f (.int i t) (.int j u)) Q E s) :
  OpR X f (rI0 fun i j => .bl (g i j)) := by
 intro pins s σ H x y v u Q I rx ry h
 obtain ⟨i, j, rfl, rfl, q⟩ := h
 obtain ⟨t, rfl⟩ := rx
 obtain ⟨t', rfl⟩ := ry
 exact rule i j t t' s _ _ ⟨.bl (g i j), H, I, rfl, q⟩
def yu (i j : Int) : Prop := 0 < j /\ j < 1073741824
def uS (i j : Int) : Prop := 0 <= j /\ j <= 1000000 /\ i.natAbs < 2 ^ 64
def wA (i j : Int) : Prop := (-(2 ^ 64) < i /\ i < 2 ^ 64) \/ (-(2 ^ 64) < j /\ j < 2 ^ 64)
theorem wA.ok {i j : Int} (h : wA i j) : IntMulOk i j := by
 rcases h with ⟨h1, h2⟩ | ⟨h1, h2⟩
 ·exact .of_left (intBits_le_64 h1 h2)
 ·exact .of_right (intBits_le_64 h1 h2)
theorem oj (k : Nat) : (0 : Int) <= 2 ^ k := by
 rw [two_pow_cast]
 exact Int.natCast_nonneg _
theorem cV : OpR X (binaryOp .Add) (rI0 fun i j => .int (i + j)) := xt fun _ _ _ _ _ _ _ q => add_int q
theorem iH : OpR X (binaryOp .Mult) (rI wA fun i j => .int (i * j)) := opI fun _ _ _ _ _ _ _ hc q => mul_int q hc.ok
theorem cy : OpR X (binaryOp .FloorDiv) (rI yu fun i j => .int (i / j)) := opI fun i j _ _ _ _ _ hc q => by
 have h1 : (0 : Int) < j := hc.1
 have h2 : j < 1073741824 := hc.2
 exact floordiv_int (by omega) (by rw [Int.fdiv_eq_ediv_of_nonneg i (by omega)]; exact q) (.inl (PyProof.noPylong_small (by omega)))
theorem aW : OpR X (binaryOp .Mod) (rI (fun _ j => 0 < j) fun i j => .int (i % j)) := opI fun i j _ _ _ _ _ hc q => by
 have h1 : (0 : Int) < j := hc
 exact mod_int' (by omega) (by rw [Int.fmod_eq_emod_of_nonneg i (by omega)]; exact q)
theorem jX : OpR X (binaryOp .Pow) (rI uS fun i j => .int (i ^ j.toNat)) := opI fun _ _ _ _ _ _ _ hc q => pow_int_small hc.1 hc.2.1 hc.2.2 q
theorem vZ : OpR X (binaryOp .RShift) (rI (fun _ j => 0 <= j) fun i j => .int (i / 2 ^ j.toNat)) := opI fun i j _ _ _ _ _ hc q =>
 rshift_int hc (by rw [Int.fdiv_eq_ediv_of_nonneg i (oj _)]; exact q)
theorem vF : OpR X (binaryOp .BitAnd) (rI0 fun i j => .int (Builtin.bitAnd i j)) := xt fun _ _ _ _ _ _ _ q => and_int q
theorem unI {f : Value -> Sem Value} {g : Int -> Int}
  (rule : ∀ (i : Int) (t : Tok) (s : Shared) (Q : Value -> Shared -> Prop) (E : Value -> Shared -> Prop), Q (.int (g i) s.toks) { s with toks := s.toks + 1 } -> wpAny (model X.prog X.w) X.A (f (.int i t)) Q E s) :
  UnR X f (rU fun i => .int (g i)) := by
 intro pins s σ H x v Q I rx h
 obtain ⟨i, rfl, q⟩ := h
 obtain ⟨t, rfl⟩ := rx
 exact rule i t s _ _ ⟨.int (g i), H, I.tok _, ⟨_, rfl⟩, q⟩
theorem iu : UnR X (unaryOp .USub) (rU fun i => .int (-i)) := unI fun _ _ _ _ _ q => neg_int q
end
def xj : V -> V -> Bool
 | .non, .non => true | .non, .int _ => true | .int _, .non => true | .non, .bl _ => true | .bl _, .non => true | .non, .str _ => true | .str _, .non => true
 | .int _, .int _ => true | .bl _, .bl _ => true | .str _, .str _ => true | .byt _, .byt _ => true
 | .int _, .str _ => true | .str _, .int _ => true | .bl _, .str _ => true | .str _, .bl _ => true
 | _, _ => false
def rEq : R2 := fun x y H Q => xj x y = true /\ Q (.bl (decide (x = y))) H
def rNe : R2 := fun x y H Q => xj x y = true /\ Q (.bl (!decide (x = y))) H
theorem pL {i j : Int} : decide (V.int i = V.int j) = (i == j) := by
 rw [Bool.eq_iff_iff]
 simp
theorem qY {i j : Bool} : decide (V.bl i = V.bl j) = (i == j) := by
 rw [Bool.eq_iff_iff]
 simp
theorem pP {i j : Str} : decide (V.str i = V.str j) = (i == j) := by
 rw [Bool.eq_iff_iff]
 simp
theorem oU {i j : Array UInt8} : decide (V.byt i = V.byt j) = (i.toList == j.toList) := by
 rw [Bool.eq_iff_iff]
 cases i
 cases j
 simp
section
variable {X : Cx} {a b c : Expr} {ta tb tc : TE} {pos : Pos}
theorem aZ {pins : List (Addr × Obj)} {σ : St} {H : Hp} {s : Shared} {Q : VK} {k k' : Bool} (I : Inv X pins σ H s) (q : Q (.bl k) H) (e : k = k') : EP X pins σ Q (.bool k') s := by
 subst e
 exact ⟨.bl k, H, I, rfl, q⟩
theorem aU : OpR X (compareOp .Eq) rEq := by
 intro pins s σ H x y v u Q I rx ry h
 obtain ⟨hs, q⟩ := h
 cases x with
 | non =>
  cases rx
  cases y with
  | non => cases ry; exact PySem.EqNone.eq_none_none (aZ I q (by simp))
  | bl j => cases ry; exact PySem.EqNone.eq_none_bool (aZ I q (by simp))
  | int j => obtain ⟨t', rfl⟩ := ry; exact PySem.EqNone.eq_none_int (aZ I q (by simp))
  | str j => obtain ⟨t', rfl⟩ := ry; exact PySem.EqNone.eq_none_str (aZ I q (by simp))
  | _ => exact absurd (show false = true from hs) Bool.false_ne_true
 | bl i =>
  cases rx
  cases y with
  | non => cases ry; exact PySem.EqNone.eq_bool_none (aZ I q (by simp))
  | bl j => cases ry; exact eq_bool (aZ I q qY)
  | str j => obtain ⟨t', rfl⟩ := ry; exact PySem.EqMixed.eq_bool_str (aZ I q (by simp))
  | _ => exact absurd (show false = true from hs) Bool.false_ne_true
 | int i =>
  obtain ⟨t, rfl⟩ := rx
  cases y with
  | non => cases ry; exact PySem.EqNone.eq_int_none (aZ I q (by simp))
  | int j => obtain ⟨t', rfl⟩ := ry; exact eq_int (aZ I q pL)
  | str j => obtain ⟨t', rfl⟩ := ry; exact PySem.EqMixed.eq_int_str (aZ I q (by simp))
  | _ => exact absurd (show false = true from hs) Bool.false_ne_true
 | str i =>
  obtain ⟨t, rfl⟩ := rx
  cases y with
  | non => cases ry; exact PySem.EqNone.eq_str_none (aZ I q (by simp))
  | bl j => cases ry; exact PySem.EqMixed.eq_str_bool (aZ I q (by simp))
  | int j => obtain ⟨t', rfl⟩ := ry; exact PySem.EqMixed.eq_str_int (aZ I q (by simp))
  | str j => obtain ⟨t', rfl⟩ := ry; exact eq_str (aZ I q pP)
  | _ => exact absurd (show false = true from hs) Bool.false_ne_true
 | byt i =>
  obtain ⟨t, rfl⟩ := rx
  cases y with
  | byt j => obtain ⟨t', rfl⟩ := ry; exact PySem.W.eq_bytes (aZ I q oU)
  | _ => exact absurd (show false = true from hs) Bool.false_ne_true
 | _ => cases y <;> exact absurd (show false = true from hs) Bool.false_ne_true
theorem fP : OpR X (compareOp .NotEq) rNe := by
 intro pins s σ H x y v u Q I rx ry h
 obtain ⟨hs, q⟩ := h
 cases x with
 | non =>
  cases rx
  cases y with
  | non => cases ry; exact PySem.EqNone.ne_none_none (aZ I q (by simp))
  | bl j => cases ry; exact PySem.EqNone.ne_none_bool (aZ I q (by simp))
  | int j => obtain ⟨t', rfl⟩ := ry; exact PySem.EqNone.ne_none_int (aZ I q (by simp))
  | str j => obtain ⟨t', rfl⟩ := ry; exact PySem.EqNone.ne_none_str (aZ I q (by simp))
  | _ => exact absurd (show false = true from hs) Bool.false_ne_true
 | bl i =>
  cases rx
  cases y with
  | non => cases ry; exact PySem.EqNone.ne_bool_none (aZ I q (by simp))
  | bl j => cases ry; exact ne_bool (aZ I q (congrArg not qY))
  | str j => obtain ⟨t', rfl⟩ := ry; exact PySem.EqMixed.ne_bool_str (aZ I q (by simp))
  | _ => exact absurd (show false = true from hs) Bool.false_ne_true
 | int i =>
  obtain ⟨t, rfl⟩ := rx
  cases y with
  | non => cases ry; exact PySem.EqNone.ne_int_none (aZ I q (by simp))
  | int j => obtain ⟨t', rfl⟩ := ry; exact ne_int (aZ I q (congrArg not pL))
  | str j => obtain ⟨t', rfl⟩ := ry; exact PySem.EqMixed.ne_int_str (aZ I q (by simp))
  | _ => exact absurd (show false = true from hs) Bool.false_ne_true
 | str i =>
  obtain ⟨t, rfl⟩ := rx
  cases y with
  | non => cases ry; exact PySem.EqNone.ne_str_none (aZ I q (by simp))
  | bl j => cases ry; exact PySem.EqMixed.ne_str_bool (aZ I q (by simp))
  | int j => obtain ⟨t', rfl⟩ := ry; exact PySem.EqMixed.ne_str_int (aZ I q (by simp))
  | str j => obtain ⟨t', rfl⟩ := ry; exact ne_str (aZ I q (congrArg not pP))
  | _ => exact absurd (show false = true from hs) Bool.false_ne_true
 | byt i =>
  obtain ⟨t, rfl⟩ := rx
  cases y with
  | byt j => obtain ⟨t', rfl⟩ := ry; exact PySem.W.ne_bytes (aZ I q (congrArg not oU))
  | _ => exact absurd (show false = true from hs) Bool.false_ne_true
 | _ => cases y <;> exact absurd (show false = true from hs) Bool.false_ne_true
theorem rq : OpR X (compareOp .Lt) (rI0 fun i j => .bl (decide (i < j))) := tN fun _ _ _ _ _ _ _ q => lt_int q
theorem jo : OpR X (compareOp .LtE) (rI0 fun i j => .bl (decide (i <= j))) := tN fun _ _ _ _ _ _ _ q => le_int q
theorem gH : OpR X (compareOp .Gt) (rI0 fun i j => .bl (decide (j < i))) := tN fun _ _ _ _ _ _ _ q => gt_int q
theorem vb : OpR X (compareOp .GtE) (rI0 fun i j => .bl (decide (j <= i))) := tN fun _ _ _ _ _ _ _ q => ge_int q
theorem wE : OpR X (compareOp .Is) (fun x y H Q => y = .non /\ Q (.bl (decide (x = .non))) H) := by
 intro pins s σ H x y v u Q I rx ry h
 obtain ⟨rfl, q⟩ := h
 cases ry
 refine is_none_gen (aZ I q ?_)
 cases x <;> first
  | (cases rx; rfl)
  | (obtain ⟨t, rfl⟩ := rx; rfl)
theorem aq (b : Expr) {op : CmpOp} (h : op ≠ .In := by decide) (h2 : op ≠ .NotIn := by decide) : behindInMarks op b = false := by
 have e1 : (op == CmpOp.In) = false := by cases op <;> first | rfl | exact absurd rfl h
 have e2 : (op == CmpOp.NotIn) = false := by cases op <;> first | rfl | exact absurd rfl h2
 cases b <;> simp [behindInMarks, e1, e2]
theorem bd {op : CmpOp} {r : R2} (ho : OpR X (compareOp op) r) (ha : PE X a ta) (hb : PE X b tb) (hm : behindInMarks op b = false) : PE X (.Compare a [op] [b] pos) (tOp r ta tb) := by
 intro pins s σ H Q I h
 exact wpAny_Compare1 (we ha hb I h fun v u s2 x y H2 I2 rx ry q => ho pins s2 σ H2 x y v u Q I2 rx ry q) hm
def vB (t : TE) : TT := fun σ H Q => t σ H fun x H' => ∃ k, x = .bl k /\ Q k H'
theorem ap {op : CmpOp} {r : R2} (ho : OpR X (compareOp op) r) (ha : PE X a ta) (hb : PE X b tb) (hm : behindInMarks op b = false) : PT X (.Compare a [op] [b] pos) (vB (tOp r ta tb)) := by
 intro pins s σ H Q I h
 refine wpAny_isTrue_Compare1 (thn (ha pins s σ H _ I h) fun v s1 ⟨x, H1, I1, r1, q1⟩ => thn (hb pins s1 σ H1 _ I1 q1) fun u s2 ⟨y, H2, I2, r2, q2⟩ =>
  thn (ho pins s2 σ H2 x y v u _ I2 r1 r2 q2) fun c s3 ⟨z, H3, I3, r3, k, e, q3⟩ => ?_) hm
 subst e
 cases r3
 exact wpAny_truthy_bool ⟨H3, I3, q3⟩
def rc (r r' : R2) (ta tb tc : TE) : TE := fun σ H Q => ta σ H fun x H1 => tb σ H1 fun y H2 => r x y H2 fun z H3 => ∃ k, z = .bl k /\
 (if k = true then tc σ H3 fun w' H4 => r' y w' H4 Q else Q (.bl false) H3)
theorem iD {op op' : CmpOp} {r r' : R2} (ho : OpR X (compareOp op) r) (ho' : OpR X (compareOp op') r') (ha : PE X a ta) (hb : PE X b tb) (hc : PE X c tc)
  (hm : lastMarks [op, op'] [b, c] = false := by with_unfolding_all rfl) : PE X (.Compare a [op, op'] [b, c] pos) (rc r r' ta tb tc) := by
 intro pins s σ H Q I h
 refine Compare_chain (thn (ha pins s σ H _ I h) fun v s1 ⟨x, H1, I1, r1, q1⟩ => chain_link (thn (hb pins s1 σ H1 _ I1 q1) fun u s2 ⟨y, H2, I2, r2, q2⟩ =>
  thn (ho pins s2 σ H2 x y v u _ I2 r1 r2 q2) fun d s3 ⟨z, H3, I3, r3, k, e, q3⟩ => ?_)) hm
 subst e
 cases r3
 refine wpAny_truthy_bool ?_
 cases k with
 | false => exact ite_ff ⟨.bl false, H3, I3, rfl, q3⟩
 | true => exact ite_tt (chain_last (thn (hc pins s3 σ H3 _ I3 q3) fun w' s4 ⟨z', H4, I4, r4, q4⟩ => ho' pins s4 σ H4 y z' u w' Q I4 r2 r4 q4))
theorem tz {op op' : CmpOp} {r r' : R2} (ho : OpR X (compareOp op) r) (ho' : OpR X (compareOp op') r') (ha : PE X a ta) (hb : PE X b tb) (hc : PE X c tc)
  (hm : lastMarks [op, op'] [b, c] = false := by with_unfolding_all rfl) : PT X (.Compare a [op, op'] [b, c] pos) (vB (rc r r' ta tb tc)) := by
 intro pins s σ H Q I h
 refine isTrue_chain (thn (ha pins s σ H _ I h) fun v s1 ⟨x, H1, I1, r1, q1⟩ => test_link (thn (hb pins s1 σ H1 _ I1 q1) fun u s2 ⟨y, H2, I2, r2, q2⟩ =>
  thn (ho pins s2 σ H2 x y v u _ I2 r1 r2 q2) fun d s3 ⟨z, H3, I3, r3, k, e, q3⟩ => ?_)) hm
 subst e
 cases r3
 refine wpAny_truthy_bool ?_
 cases k with
 | false =>
  obtain ⟨k', e', q'⟩ := q3
  cases e'
  exact ite_ff ⟨H3, I3, q'⟩
 | true =>
  refine ite_tt (test_last (thn (hc pins s3 σ H3 _ I3 q3) fun w' s4 ⟨z', H4, I4, r4, q4⟩ => thn (ho' pins s4 σ H4 y z' u w' _ I4 r2 r4 q4) fun d' s5 ⟨z2, H5, I5, r5, k2, e2, q5⟩ => ?_))
  subst e2
  cases r5
  exact wpAny_truthy_bool ⟨H5, I5, q5⟩
def uY (K : PySem.W.Frag) (x : V) (H : Hp) (k : Bool) : Prop :=
 match x with
 | .non => k = false
 | .bl b => k = b
 | .int i => k = (i != 0)
 | .str y => y.length <= sizeLine /\ k = ((y.length : Int) != 0)
 | .byt y => y.size <= sizeLine /\ k = ((y.size : Int) != 0)
 | .ref p => (∃ xs, SqL K H p xs /\ k = !xs.isEmpty) \/ (∃ xs, SqT K H p xs /\ k = !xs.isEmpty) \/ ∃ kvs, H p = some (.dK kvs) /\ k = !kvs.isEmpty
 | _ => False
theorem nJ {κ : Type} {kvs : List (κ × V)} {vs : List (κ × Value)} (r : KV kvs vs) : (!vs.isEmpty) = !kvs.isEmpty := by
 cases r <;> rfl
theorem iS {xs : List V} {its : List Value} (r : aL xs its) : (!its.toArray.isEmpty) = !xs.isEmpty := by
 cases r <;> simp
theorem fH : (sizeLine : Nat) < 2 ^ 63 := by rw [sizeLine_eq]; decide
theorem vP : yf X (fun x H Q => ∃ k, uY X.K x H k /\ Q k H) := by
 intro pins s σ H x v Q I rx h
 obtain ⟨k, e, q⟩ := h
 have hl := fH
 have hs : sizeLine = 16777216 := sizeLine_eq
 cases x with
 | non =>
  cases rx
  have e' : k = false := e
  subst e'
  exact truthy_none ⟨H, I, q⟩
 | bl b =>
  cases rx
  have e' : k = b := e
  subst e'
  exact wpAny_truthy_bool ⟨H, I, q⟩
 | int i =>
  obtain ⟨t, rfl⟩ := rx
  have e' : k = (i != 0) := e
  subst e'
  exact PySem.P.truthy_int ⟨H, I, q⟩
 | str y =>
  obtain ⟨t, rfl⟩ := rx
  obtain ⟨hy, e'⟩ : y.length <= sizeLine /\ k = ((y.length : Int) != 0) := e
  subst e'
  exact PySem.P.truthy_str (by omega) ⟨H, I.tok _, q⟩
 | byt y =>
  obtain ⟨t, rfl⟩ := rx
  obtain ⟨hy, e'⟩ : y.size <= sizeLine /\ k = ((y.size : Int) != 0) := e
  subst e'
  exact PySem.W.truthy_bytes (by omega) ⟨H, I.tok _, q⟩
 | ref p =>
  cases rx
  have e' : (∃ xs, SqL X.K H p xs /\ k = !xs.isEmpty) \/ (∃ xs, SqT X.K H p xs /\ k = !xs.isEmpty) \/ ∃ kvs, H p = some (.dK kvs) /\ k = !kvs.isEmpty := e
  rcases e' with ⟨xs, hx, e'⟩ | ⟨xs, hx, e'⟩ | ⟨kvs, hx, e'⟩
  ·subst e'
   obtain ⟨its, r, pl, hz⟩ := I.list hx
   have hlen := r.length
   exact wpAny_truthy_list pl.isList (by simp only [List.size_toArray]; omega) ⟨H, I.tok _, by rw [iS r]; exact q⟩
  ·subst e'
   obtain ⟨its, r, pl, hz⟩ := I.tuple hx
   have hlen := r.length
   exact truthy_tuple pl (by simp only [List.size_toArray]; omega) ⟨H, I.tok _, by rw [iS r]; exact q⟩
  ·subst e'
   obtain ⟨hz, hS, vs, r, m⟩ : kvs.length <= sizeLine /\ (p == sysModules) = false /\ ∃ vs, KV kvs vs /\ s.heap.DictOf (be X.prog X.w) p vs := I.hok p _ hx
   have hlen : kvs.length = vs.length := Paired.length r
   exact wpAny_truthy_dict hS m (by omega) ⟨H, I.tok _, by rw [nJ r]; exact q⟩
 | _ => exact (show False from e).elim
theorem io (ha : PE X a ta) (he : ∀ whole, isTrue a X.env whole = (do let v <- whole; standAt a.pos; holding [v] (truthy v))) :
  PT X a (fun σ H Q => ta σ H fun x H' => ∃ k, uY X.K x H' k /\ Q k H') := by
 intro pins s σ H Q I h
 exact isTrue_plain (thn (ha pins s σ H _ I h) fun v s1 ⟨x, H1, I1, r1, q1⟩ => vP pins s1 σ H1 x v Q I1 r1 q1) (he _)
theorem dz : OpR X (binaryOp .Add) (fun x y H Q => ∃ i j, x = .str i /\ y = .str j /\ i.length + j.length <= sizeLine /\ Q (.str (i ++ j)) H) := by
 intro pins s σ H x y v u Q I rx ry h
 obtain ⟨i, j, rfl, rfl, hz, q⟩ := h
 obtain ⟨t, rfl⟩ := rx
 obtain ⟨t', rfl⟩ := ry
 exact add_str (fun t' tk => ⟨.str (i ++ j), H, I.tok _, ⟨_, rfl⟩, q⟩) hz
theorem fm {x : V} {us : List Value} (r : aL [x] us) : ∃ u, us = [u] /\ aQ x u := by
 cases r with
 | cons r1 r2 => cases r2; exact ⟨_, rfl, r1⟩
theorem rD {x y : V} {us : List Value} (r : aL [x, y] us) : ∃ u w', us = [u, w'] /\ aQ x u /\ aQ y w' := by
 cases r with
 | cons r1 r2 =>
  cases r2 with
  | cons r3 r4 => cases r4; exact ⟨_, _, rfl, r1, r3⟩
theorem pY (hc : X.calm = true) : dP X (.builtin "max") (fun xs H Q => ∃ i j, xs = [.int i, .int j] /\ Q (.int (if j > i then j else i)) H) := by
 intro pins s σ H xs us Q I r h
 obtain ⟨i, j, rfl, q⟩ := h
 obtain ⟨u, w', rfl, ⟨t, rfl⟩, ⟨t', rfl⟩⟩ := rD r
 refine max_two_ints (I.ok.hd hc) fun h' tk k => ⟨_, H, I.kept k, ?_, q⟩
 by_cases hj : j > i
 ·rw [if_pos hj, if_pos hj]; exact ⟨_, rfl⟩
 ·rw [if_neg hj, if_neg hj]; exact ⟨_, rfl⟩
end
structure wn (h : Heap) (x dx C : Addr) (mA : Str -> Option Value) : Prop where
 obj : h.get? x = some (PySem.W.instObj C dx)
 ns : h.Ns1 dx mA
 ne : dx ≠ x
theorem qu {h : Heap} {dx : Addr} {mA : Str -> Option Value} (n : h.Ns1 dx mA) : ∃ od, h.get? dx = some od /\ ∀ name, PySem.W.lookIn name od = some (mA name) := by
 obtain ⟨o, es, ep, ho, hd, hk, _, hm⟩ := n
 refine ⟨o, ho, fun name => ?_⟩
 have e := hm name
 unfold nsFind findBy at e
 rw [<- Array.find?_toList] at e
 unfold PySem.W.lookIn
 rw [hd]
 dsimp only
 split
 ·rename_i y q
  rw [q] at e
  exact congrArg some e
 ·rename_i q
  rw [q] at e
  have a : es.toList.any (·.refKey) = false := by
   rw [List.any_eq_false]
   intro y hy
   obtain ⟨z, t, hkey⟩ := hk y (Array.mem_toList_iff.mp hy)
   simp [DictEntry.refKey, hkey]
  have a' : ¬ es.toList.any (·.refKey) = true := by rw [a]; exact Bool.false_ne_true
  rw [if_neg a']
  exact congrArg some e
theorem wn.look {h : Heap} {x dx C : Addr} {mA : Str -> Option Value} (I : wn h x dx C mA) : ∃ od, PySem.W.InstAt h x (PySem.W.instObj C dx) C (some od) /\ ∀ name, PySem.W.lookIn name od = some (mA name) :=
 let ⟨od, ho, hl⟩ := qu I.ns
 ⟨od, ⟨I.obj, rfl, rfl, ho⟩, hl⟩
section
variable {prog : Program} {w : World} {A : Around} {E : Value -> Shared -> Prop} {s : Shared} {K : PySem.W.Frag} {x dx C f : Addr} {mA : Str -> Option Value} {name : Str} {v : Value}
end
section
variable {P : Program} {w : World} {H H' : Hp} {h h' : Heap} {a C dx : Addr} {fs fs' : List (Str × V)}
theorem uW (hok : HOk P w H h) (e : H a = some (.ins C dx fs)) : ∃ mA, wn h a dx C mA /\ (∀ f, oE (fs.lookup f) (mA f)) /\ PySem.Within mA (fs.map (·.1)) /\ fs.length <= 1000 /\ H dx = some (.own a) := by
 obtain ⟨d, z, ne, ob, mA, n, r, q⟩ := (show bo P w H h a (.ins C dx fs) from hok a _ e)
 exact ⟨mA, ⟨ob, n, ne⟩, r, q, z, d⟩
end
structure Cls (K : PySem.W.Frag) (C : Addr) : Prop where
 pg : PySem.W.plainGet K C Str.empty = true
 hd : PySem.W.hasDictIn K C = true
 po : PySem.W.plainOver K C = true
 sa : PySem.W.findIn K (.ref C) "__setattr__" = some (some (.builtin "object.__setattr__"))
theorem Cls.get {K : PySem.W.Frag} {C : Addr} (c : Cls K C) (f : Str) : PySem.W.plainGet K C f = true := c.pg
section
variable {X : Cx} {pins : List (Addr × Obj)} {σ : St} {H : Hp} {s : Shared} {a C dx : Addr} {fs : List (Str × V)} {f : Str} {v : V} {A : Around} {E : Value -> Shared -> Prop}
end
section
variable {X : Cx} {o e value : Expr} {f : Str} {pos pos' tpos : Pos} {ta tv : TE}
end
section
variable {X : Cx} {pins : List (Addr × Obj)} {σ : St} {H : Hp} {s : Shared} {A : Around} {E : Value -> Shared -> Prop} {Q : Value -> Shared -> Prop} {c : Value} {b : Bool}
inductive fJ (K : PySem.W.Frag) (H : Hp) : V -> Value -> Prop where
 | non : fJ K H .non (.type "NoneType")
 | bl (x : Bool) : fJ K H (.bl x) (.type "bool")
 | int (i : Int) : fJ K H (.int i) (.type "int")
 | str (x : Str) : fJ K H (.str x) (.type "str")
 | flt (x : UInt64) : fJ K H (.flt x) (.type "float")
 | lst {a : Addr} {xs : List V} (e : H a = some (.lst xs)) : fJ K H (.ref a) (.type "list")
 | frz {a : Addr} {o : Obj} {xs : List V} (e : H a = some (.frz o (.lst xs))) : fJ K H (.ref a) (.type "list")
 | tup {a : Addr} {xs : List V} (e : H a = some (.tup xs)) : fJ K H (.ref a) (.type "tuple")
 | dK {a : Addr} {kvs : List (Key × V)} (e : H a = some (.dK kvs)) : fJ K H (.ref a) (.type "dict")
 | dT {a : Addr} {kvs : List (List Key × V)} (e : H a = some (.dT kvs)) : fJ K H (.ref a) (.type "dict")
 | ins {a C dx : Addr} {fs : List (Str × V)} (e : H a = some (.ins C dx fs)) (cl : Cls K C) (ha : PySem.W.findIn K (.ref C) "__class__" = some (some (.builtin "object.__class__")))
   (hn : PySem.W.specialIn K (.builtin "object.__class__") "__get__" = some (some (.builtin "getset_descriptor.__get__"))) (htk : PySem.W.takesIn K (.builtin "object.__class__") = some true)
   (hm : PySem.W.mroIn K C (.type "object") = some true) : fJ K H (.ref a) (.ref C)
theorem qo {x : V} {u t : Value} (I : Inv X pins σ H s) (rx : aQ x u) (ty : fJ X.K H x t) (e : PySem.W.kitOne X.K t c = some b) (h : ∀ tk, Q (.bool b) { s with toks := tk }) :
  wpAny (model X.prog X.w) A (call (.builtin "isinstance") [u, c]) Q E s := by
 cases ty with
 | non => cases (show u = Value.none from rx); exact PySem.W.kia_one PySem.W.kitx_none I.kIn True.intro e (fun z => nomatch z) h
 | bl y => cases (show u = Value.bool y from rx); exact PySem.W.kia_one PySem.W.kitx_bool I.kIn True.intro e (fun z => nomatch z) h
 | int i => obtain ⟨t, q⟩ := (show ∃ t, u = Value.int i t from rx); cases q; exact PySem.W.kia_one PySem.W.kitx_int I.kIn True.intro e (fun z => nomatch z) h
 | str y => obtain ⟨t, q⟩ := (show ∃ t, u = Value.str y t from rx); cases q; exact PySem.W.kia_one PySem.W.kitx_str I.kIn True.intro e (fun z => nomatch z) h
 | flt y => obtain ⟨t, q⟩ := (show ∃ t, u = Value.float y t from rx); cases q; exact PySem.W.kia_one PySem.W.kitx_float I.kIn True.intro e (fun z => nomatch z) h
 | @lst a xs ea =>
  cases (show u = Value.ref a from rx)
  obtain ⟨_, _, n, _, h1⟩ := (show bo X.prog X.w H s.heap a (.lst xs) from I.hok a _ ea)
  exact PySem.W.kia_one PySem.W.kitx_list I.kIn ⟨_, h1, rfl⟩ e (fun z => nomatch z) h
 | @frz a ob xs ea =>
  cases (show u = Value.ref a from rx)
  obtain ⟨_, _, _, n, _, h1⟩ := (show bo X.prog X.w H s.heap a (.frz ob (.lst xs)) from I.hok a _ ea)
  exact PySem.W.kia_one PySem.W.kitx_list I.kIn ⟨_, h1, rfl⟩ e (fun z => nomatch z) h
 | @tup a xs ea =>
  cases (show u = Value.ref a from rx)
  obtain ⟨_, _, _, p⟩ := (show bo X.prog X.w H s.heap a (.tup xs) from I.hok a _ ea)
  obtain ⟨⟨o, h1, h2, _⟩, _⟩ := p
  exact PySem.W.kia_one PySem.W.kitx_tuple I.kIn ⟨o, h1, h2⟩ e (fun z => nomatch z) h
 | @dK a kvs ea =>
  cases (show u = Value.ref a from rx)
  obtain ⟨_, _, vs, _, p⟩ := (show bo X.prog X.w H s.heap a (.dK kvs) from I.hok a _ ea)
  obtain ⟨o, es, ep, h1, h2, _⟩ := p
  exact PySem.W.kia_one PySem.W.kitx_dict I.kIn ⟨o, h1, h2.1⟩ e (fun z => nomatch z) h
 | @dT a kvs ea =>
  cases (show u = Value.ref a from rx)
  obtain ⟨_, _, xs, _, o, es, ep, h1, h2, _⟩ := (show bo X.prog X.w H s.heap a (.dT kvs) from I.hok a _ ea)
  exact PySem.W.kia_one PySem.W.kitx_dict I.kIn ⟨o, h1, h2.1⟩ e (fun z => nomatch z) h
 | @ins a C dx fs ea cl ha hn htk hm =>
  cases (show u = Value.ref a from rx)
  obtain ⟨mA, O, _⟩ := uW I.hok ea
  obtain ⟨od, J, _⟩ := O.look
  exact PySem.W.kia_one (PySem.W.kitx_own (cl.get _) cl.hd ha hn htk hm) I.kIn J e (fun z => nomatch z) h
end
structure dR (k : Nat) (A : Around) : Prop where
 hd : A.handled = none
 dp : A.depth + 3 * k + 5 < recursionLimit
 un : A.units + 16 * k + 200 < cLine
theorem dR.mono {j k : Nat} {A : Around} (r : dR k A) (h : j <= k) : dR j A := ⟨r.hd, by have := r.dp; omega, by have := r.un; omega⟩
theorem dR.deeper {k : Nat} {A : Around} (r : dR (k + 1) A) (env : Env) : dR k (A.deeper env) :=
 ⟨r.hd, by have := r.dp; show A.depth + 1 + 3 * k + 5 < _; omega, by have := r.un; show A.units + 3 + 16 * k + 200 < _; omega⟩
theorem dR.depth {k : Nat} {A : Around} (r : dR k A) : A.depth < recursionLimit := by have := r.dp; omega
theorem dR.units {k : Nat} {A : Around} (r : dR k A) : A.units + 64 < cLine := by have := r.un; omega
def xf : TA := fun _ H Q => Q [] H
def vD (ta : TE) (tr : TA) : TA := fun σ H Q => ta σ H fun x H1 => tr σ H1 fun xs H2 => Q (x :: xs) H2
section
variable {X : Cx} {e : Expr} {es : List Expr} {te : TE} {t : TA} {pos : Pos}
theorem ab : PA X [] xf := fun _ _ _ _ H Q I h => Calls.spliced_nil ⟨[], H, I, .nil, h⟩
theorem aa (ha : PE X e te) (hr : PA X es t) (hs : starEach (e :: es) X.env = (false, eval e X.env) :: starEach es X.env := by rfl) : PA X (e :: es) (vD te t) := by
 intro pos pins s σ H Q I h
 rw [hs]
 show wpAny _ _ (spliced ((false, eval e X.env) :: backTo pos (starEach es X.env))) _ _ s
 refine Calls.spliced_cons (thn (ha pins s σ H _ I h) fun u s1 ⟨x, H1, I1, r1, q1⟩ => ?_)
 exact thn (hr pos pins s1 σ H1 _ I1 q1) fun us s2 ⟨xs, H2, I2, r2, q2⟩ => ⟨x :: xs, H2, I2, .cons r1 r2, q2⟩
def wY (t : TA) : TE := fun σ H Q => t σ H fun xs H1 => xs.length <= sizeLine /\ ∀ p, H1 p = none -> Q (.ref p) (upd H1 p (.tup xs))
def xi (t : TA) : TE := fun σ H Q => t σ H fun xs H1 => xs.length <= sizeLine /\ ∀ p, H1 p = none -> Q (.ref p) (upd H1 p (.lst xs))
theorem aX {x1} (h : PA X es t) : PE X (.Tuple es x1 pos) (wY t) := by
 intro pins s σ H Q I hq
 refine wpAny_Tuple_spliced (thn (h pos pins s σ H _ I hq) fun us s1 ⟨xs, H1, I1, r, z, q⟩ => ⟨by rw [<- r.length]; exact z, ?_⟩)
 have hf : H1 s1.heap.objs.size = none := I1.hok.fresh (Nat.le_refl _)
 refine ⟨.ref s1.heap.objs.size, upd H1 s1.heap.objs.size (.tup xs), I1.laid (t' := s1.toks) (fun b u e => Heap.get?_push_of_some _ e) (Nat.le_refl _) ?_, rfl, q _ hf⟩
 exact ⟨z, us, r, ⟨_, Heap.get?_push_size _ rfl, rfl, _, rfl⟩, NoD.new _ rfl⟩
theorem bp (h : PA X es t) : PE X (.List es pos) (xi t) := by
 intro pins s σ H Q I hq
 refine wpAny_List_spliced (thn (h pos pins s σ H _ I hq) fun us s1 ⟨xs, H1, I1, r, z, q⟩ => ⟨by rw [<- r.length]; exact z, ?_⟩)
 have hf : H1 s1.heap.objs.size = none := I1.hok.fresh (Nat.le_refl _)
 refine ⟨.ref s1.heap.objs.size, upd H1 s1.heap.objs.size (.lst xs), I1.laid (t' := s1.toks) (fun b u e => Heap.get?_push_of_some _ e) (Nat.le_refl _) ?_, rfl, q _ hf⟩
 exact ⟨z, us, 0, r, Heap.get?_push_size _ rfl⟩
end
abbrev Sp := List V -> Hp -> VK -> XK -> Prop
abbrev CXT := List Env -> Hp -> Shared -> XK -> Value -> Shared -> Prop
structure uX (P : Program) (w : World) (K : PySem.W.Frag) (mg : Str -> Option Value) (base : Heap) (A : Around) (outer : List Env) (s : Shared) (H : Hp) : Prop where
 frames : A.frames = some outer
 mod : Mod K mg base
 bs : ∀ b o, base.get? b = some o -> s.heap.get? b = some o /\ H b = none
 bsz : base.objs.size <= s.heap.objs.size
 funs : s.heap.FunFrames base outer
 frf : ∀ b ∈ frs outer, H b = none
 hok : HOk P w H s.heap
 bare : AllBare s.gens
def CE (outer : List Env) (P : Program) (w : World) (H : Hp) (s : Shared) (Q : VK) (u : Value) (s' : Shared) : Prop :=
 ∃ v H', s'.os = s.os /\ AllBare s'.gens /\ Un (frs outer) [] H H' s.heap s'.heap /\ HOk P w H' s'.heap /\ aQ v u /\ Q v H'
def CR (CX : CXT) (outer : List Env) (P : Program) (w : World) (H : Hp) (s : Shared) (Q : VK) (E : XK) (r : Result) (s' : Shared) : Prop :=
 match r with
 | .ok (.ret u) => CE outer P w H s Q u s'
 | .ok _ => False
 | .error e => CX outer H s E e s'
structure bi (P : Program) (w : World) (K : PySem.W.Frag) (mg : Str -> Option Value) (base : Heap) (CX : CXT) (k : Nat) (f : Addr) (fd : FuncData) (ps : List Str) (sp : Sp) : Prop where
 len : ∀ vs H Q E, sp vs H Q E -> vs.length = ps.length
 run : ∀ (A : Around) (outer : List Env) (s : Shared) (H : Hp) (args : Args) (us : List Value) (vs : List V) (Q : VK) (E : XK), dR k A -> uX P w K mg base A outer s H -> BindsTo s fd args (ps.zip us) -> aL vs us -> sp vs H Q E ->
  codeAny (model P w) A (.call (.ref f) args) (CR CX outer P w H s Q E) s
theorem bi.mono {P : Program} {w : World} {K : PySem.W.Frag} {mg : Str -> Option Value} {base : Heap} {CX : CXT} {j k : Nat} {f : Addr} {fd : FuncData} {ps : List Str} {sp : Sp} (F : bi P w K mg base CX j f fd ps sp) (h : j <= k) :
  bi P w K mg base CX k f fd ps sp := ⟨F.len, fun A outer s H args us vs Q E hr => F.run A outer s H args us vs Q E (hr.mono h)⟩
section
variable {X : Cx} {pins : List (Addr × Obj)} {σ : St} {H : Hp} {s s' : Shared}
theorem Inv.env0 (I : Inv X pins σ H s) : uX X.prog X.w X.K X.mg X.base X.A X.stack s H :=
 ⟨I.ok.frames, I.ok.mod, I.bs, Nat.le_trans I.ok.bsz I.sz, I.stack, I.stkFree, I.hok, I.bare⟩
theorem Inv.after {Q : VK} {u : Value} (I : Inv X pins σ H s) (h : CE X.stack X.prog X.w H s Q u s') : EP X pins σ Q u s' := by
 obtain ⟨v, H', os, bare, un, hok, r, q⟩ := h
 obtain ⟨hh, g, d, t, os'⟩ := s'
 obtain rfl : os' = s.os := os
 exact ⟨v, H', I.call (h' := hh) (g' := g) (d' := d) (t' := t) (ch := []) un hok bare (fun b z => absurd z (by simp)), r, q⟩
end
def vf (sp : Sp) (dvs : List V) (E : XK) (t : TA) : TE := fun σ H Q => t σ H fun vs H1 => sp (vs ++ dvs) H1 Q E
def gU (K : PySem.W.Frag) (fd : FuncData) (ps : List Str) (ds : List Value) : Prop :=
 ∀ (s : Shared) (us : List Value), K.In s.heap -> (us ++ ds).length = ps.length -> BindsTo s fd ⟨us, []⟩ (ps.zip (us ++ ds))
theorem gU.all {K : PySem.W.Frag} {fd : FuncData} {ps : List Str} (h : ∀ us : List Value, us.length = ps.length -> bindArgs fd ⟨us, []⟩ = pure (ps.zip us)) : gU K fd ps [] := fun s us _ hl => by
 rw [List.append_nil] at hl ⊢
 exact .of_eq (h us hl)
def nV (CX : CXT) (X : Cx) (E : XK) : Prop := ∀ (pins : List (Addr × Obj)) (σ : St) (H : Hp) (s : Shared) (e : Value) (s' : Shared), Inv X pins σ H s -> CX X.stack H s E e s' -> X.xe e s'
section
variable {X : Cx} {CX : CXT} {k : Nat} {f C : Addr} {fd : FuncData} {ps : List Str} {sp : Sp} {dvs : List V} {ds : List Value} {E : XK} {x m : Str} {p pos apos : Pos} {e o : Expr} {es : List Expr} {ta : TE} {t : TA}
theorem rG {pins : List (Addr × Obj)} {σ : St} {H : Hp} {s : Shared} {Q : VK} {us : List Value} {vs : List V} (F : bi X.prog X.w X.K X.mg X.base CX k f fd ps sp) (hr : dR k X.A) (hb : gU X.K fd ps ds) (hd : aL dvs ds) (hx : nV CX X E)
  (I : Inv X pins σ H s) (r : aL vs us) (h : sp (vs ++ dvs) H Q E) : wpAny (model X.prog X.w) X.A (call (.ref f) us) (EP X pins σ Q) X.xe s := by
 have r2 : aL (vs ++ dvs) (us ++ ds) := r.append hd
 have hl : (us ++ ds).length = ps.length := by rw [<- r2.length]; exact F.len _ _ _ _ h
 refine wpAny_call (codeAny_mono (F.run X.A X.stack s H ⟨us, []⟩ (us ++ ds) (vs ++ dvs) Q E hr I.env0 (hb s us I.kIn hl) r2 h) fun r s' hq => ?_)
 cases r with
 | error e => exact hx pins σ H s e s' I hq
 | ok fl =>
  cases fl with
  | ret u => exact I.after hq
  | next => exact False.elim hq
  | brk => exact False.elim hq
  | cont => exact False.elim hq
theorem tV (F : bi X.prog X.w X.K X.mg X.base CX k f fd ps sp) (hr : dR k X.A) (hg : Gl X x) (hm : X.mg x = some (.ref f)) (hk : PySem.W.keepIn X.K (.ref f) = true) (hb : gU X.K fd ps ds) (hd : aL dvs ds) (hx : nV CX X E)
  (ha : PA X (e :: es) t) (hdb : (x == ("__debug__" : Str)) = false := by decide) (he : starEach (e :: es) X.env = (false, eval e X.env) :: starEach es X.env := by rfl) (hpl : (backTo pos (starEach es X.env)).any (·.1) = false := by rfl) :
  PE X (.Call (.Name x p) (e :: es) [] pos) (vf sp dvs E t) := by
 intro pins s σ H Q I h
 refine wpAny_Call_Name_kw (pc I hg hm ?_ hdb)
 refine PySem.W.callWith_K (h₀ := X.base) I.ok.mod.kin hk (thn (ha pos pins s σ H _ I h) fun us s1 ⟨vs, H1, I1, r, q⟩ => ⟨I1.kIn, ?_⟩) he hpl
 exact rG F hr hb hd hx I1 r q
end
section
variable {X : Cx} {CX : CXT} {k : Nat} {f C : Addr} {fd : FuncData} {ps ks : List Str} {sp : Sp} {E : XK} {x m : Str} {p pos apos kpos : Pos} {e o : Expr} {es : List Expr} {kws : List Keyword} {te ta : TE} {t tk : TA} {nm : Option Str}
variable {g : List Value -> List Value -> List Value} {gV : List V -> List V -> List V}
end
structure aH (N P : List Str) (sc : Scope) : Prop where
 kind : sc.kind = .function
 co : sc.isCoroutine = false
 gen : sc.isGenerator = false
 nd : N.Nodup
 pre : N.take P.length = P
 par : ∀ x ∈ P, sc.names.lookup x = some .local \/ sc.names.lookup x = some .cell
 nofree : ∀ y ∈ sc.names, y.2 ≠ .free
theorem jH {kindOf : Str -> Option NameKind} {x : Str} : ∀ {binds : List (Str × Value)} {m : Str -> Option Value}, (∀ v, (x, v) ∉ binds) -> bindL kindOf binds m x = m x
 | [], _, _ => rfl
 | (n, v) :: r, m, h => by
  unfold bindL
  rw [jH fun w hw => h w (List.mem_cons_of_mem _ hw)]
  split
  ·have : x ≠ n := by rintro rfl; exact h v List.mem_cons_self
   simp [this]
  ·rfl
theorem jt {kindOf : Str -> Option NameKind} {x : Str} : ∀ {binds : List (Str × Value)} {m : Str -> Option Value}, (∀ v, (x, v) ∉ binds) -> bindC kindOf binds m x = m x
 | [], _, _ => rfl
 | (n, v) :: r, m, h => by
  unfold bindC
  rw [jt fun w hw => h w (List.mem_cons_of_mem _ hw)]
  split
  ·rfl
  ·have : x ≠ n := by rintro rfl; exact h v List.mem_cons_self
   simp [this]
theorem jn {kindOf : Str -> Option NameKind} {x : Str} {v : Value} : ∀ {P : List Str} {vs : List Value} {i : Nat} {m : Str -> Option Value}, P.Nodup -> P[i]? = some x -> vs[i]? = some v -> kindOf x = some .local ->
  bindL kindOf (P.zip vs) m x = some v
 | [], _, _, _, _, h, _, _ => by simp at h
 | _ :: _, [], _, _, _, _, h, _ => by simp at h
 | p :: P, w :: vs, 0, m, nd, h1, h2, hk => by
  simp at h1 h2; subst h1; subst h2
  show bindL kindOf ((p, w) :: P.zip vs) m p = _
  unfold bindL
  rw [jH fun v hv => (List.nodup_cons.mp nd).1 (List.of_mem_zip hv).1, if_pos hk]
  simp
 | p :: P, w :: vs, i + 1, m, nd, h1, h2, hk => by
  show bindL kindOf ((p, w) :: P.zip vs) m x = _
  unfold bindL
  exact jn (i := i) (List.nodup_cons.mp nd).2 (by simpa using h1) (by simpa using h2) hk
theorem jO {kindOf : Str -> Option NameKind} {x : Str} {v : Value} : ∀ {P : List Str} {vs : List Value} {i : Nat} {m : Str -> Option Value}, P.Nodup -> P[i]? = some x -> vs[i]? = some v -> kindOf x ≠ some .local ->
  bindC kindOf (P.zip vs) m x = some v
 | [], _, _, _, _, h, _, _ => by simp at h
 | _ :: _, [], _, _, _, _, h, _ => by simp at h
 | p :: P, w :: vs, 0, m, nd, h1, h2, hk => by
  simp at h1 h2; subst h1; subst h2
  show bindC kindOf ((p, w) :: P.zip vs) m p = _
  unfold bindC
  rw [jt fun v hv => (List.nodup_cons.mp nd).1 (List.of_mem_zip hv).1, if_neg hk]
  simp
 | p :: P, w :: vs, i + 1, m, nd, h1, h2, hk => by
  show bindC kindOf ((p, w) :: P.zip vs) m x = _
  unfold bindC
  exact jO (i := i) (List.nodup_cons.mp nd).2 (by simpa using h1) (by simpa using h2) hk
def gF (N : List Str) (vs : List V) : St := vs.map some ++ List.replicate (N.length - vs.length) none
def qL (CX : CXT) (P : Program) (w : World) (K : PySem.W.Frag) (mg : Str -> Option Value) (base : Heap) (N : List Str) (qual : Str) (scope : Scope) (f : Addr) (cd : Value) (A : Around) (outer : List Env) (s : Shared) (H : Hp) (E : XK) : Cx where
 prog := P
 w := w
 K := K
 mg := mg
 base := base
 A := A.deeper (envOfC qual scope s.heap.objs.size f cd)
 N := N
 s₀ := s
 H₀ := H
 env := envOfC qual scope s.heap.objs.size f cd
 outer := outer
 stack := envOfC qual scope s.heap.objs.size f cd :: outer
 ex := []
 calm := true
 fn := fun _ => true
 pn := []
 xe := fun e s' => wpAny (model P w) (A.deeper (envOfC qual scope s.heap.objs.size f cd)) (leaving (envOfC qual scope s.heap.objs.size f cd) e) (fun _ s'' => CX outer H s E e s'') (fun e' s'' => CX outer H s E e' s'') s'
theorem ml {sc : Scope} {n : Nat} {x : Str} (h : sc.names.lookup x = some .cell) : ∃ c, (cellsFrom n sc.names []).lookup x = some c := by
 have q := PySem.W.cellsFrom_some sc.names n [] (.inl h)
 exact Option.isSome_iff_exists.mp q
theorem qA {CX : CXT} {P : Program} {w : World} {K : PySem.W.Frag} {mg : Str -> Option Value} {base : Heap} {N ps : List Str} {qual : Str} {scope : Scope} {f : Addr} {cd : Value} {A : Around} {outer : List Env} {s s1 : Shared} {H : Hp} {E : XK} {us : List Value} {vs : List V}
  (S : aH N ps scope) (hd : A.handled = none) (e0 : uX P w K mg base A outer s H) (hl : vs.length = ps.length) (r : aL vs us)
  (x : InCallC s s.heap.objs.size (bindL (envOfC qual scope s.heap.objs.size f cd).kindOf (ps.zip us) fun _ => none) (cellsFrom (s.heap.objs.size + 1) scope.names []) (bindC (envOfC qual scope s.heap.objs.size f cd).kindOf (ps.zip us) fun _ => none) s1) :
  Inv (qL CX P w K mg base N qual scope f cd A outer s H E) [] (gF N vs) H s1 := by
 have hpl : ps.length <= N.length := by have := congrArg List.length S.pre; rw [List.length_take] at this; omega
 obtain ⟨h1, tk, rfl, hk⟩ := x.done
 have noA : ∀ b : Addr, b ∉ (qL CX P w K mg base N qual scope f cd A outer s H E).ex := fun b z => absurd (show b ∈ ([] : List Addr) from z) (by simp)
 refine ⟨⟨e0.mod, S.kind, rfl, rfl, Nat.le_refl _, fun y z c h1 h2 => ?_, fun y hy => ?_, fun y c _ h => ?_, fun _ => hd, Around.frames_deeper e0.frames, .inr ⟨rfl, rfl⟩, fun b z => absurd z (noA b), e0.bs, e0.bsz, fun b _ _ => noA b, fun b z => absurd z (noA b), e0.funs, e0.frf⟩,
  rfl, e0.bare, Un.kept hk, ⟨_, x.toInCall.ns, fun i y v h1 h2 h3 => ?_⟩, fun y c h => ⟨_, x.cell y c h⟩, e0.hok.fresh (Nat.le_refl _), fun y c h => ?_, fun p hp => absurd (show p ∈ ([] : List (Addr × Obj)) from hp) (by simp), e0.hok.kept hk, ?_⟩
 ·exact name_of_addr x.apart (PySem.mem_of_lookup h1) (PySem.mem_of_lookup h2)
 ·have hy : scope.names.lookup y = some .cell \/ scope.names.lookup y = some .free := hy
  rcases hy with hy | hy
  ·exact ml hy
  ·exact absurd rfl (S.nofree _ (PySem.mem_of_lookup hy))
 ·exact Nat.le_of_lt (x.above y c (PySem.mem_of_lookup h))
 ·have hi : i < vs.length := by
   unfold gF at h2
   by_cases hi : i < vs.length
   ·exact hi
   ·rw [List.getElem?_append_right (by simpa using hi)] at h2
    rw [List.getElem?_replicate] at h2
    split at h2 <;> cases h2
  have ha : vs[i]? = some v := by
   unfold gF at h2
   rw [List.getElem?_append_left (by simpa using hi), List.getElem?_map] at h2
   cases e : vs[i]? with
   | none => rw [e] at h2; cases h2
   | some a => rw [e] at h2; cases h2; rfl
  obtain ⟨u, hu, rv⟩ := r.get ha
  have hp : ps[i]? = some y := by
   rw [<- S.pre, List.getElem?_take_of_lt (by omega)]; exact h1
  have ndP : ps.Nodup := by rw [<- S.pre]; exact S.nd.sublist (List.take_sublist _ _)
  refine ⟨u, rv, ?_⟩
  rcases S.par y (List.mem_of_getElem? hp) with k | k
  ·exact .inl ⟨k, jn ndP hp hu k⟩
  ·obtain ⟨c, e⟩ := ml (n := s.heap.objs.size + 1) k
   refine .inr ⟨.inl k, c, e, ?_⟩
   have q := x.cell y c e
   rw [jO ndP hp hu (by show scope.names.lookup y ≠ _; rw [k]; decide)] at q
   exact q
 ·exact e0.hok.fresh (Nat.le_of_lt (x.above y c (PySem.mem_of_lookup h)))
 ·unfold gF
  show _ = N.length
  rw [List.length_append, List.length_map, List.length_replicate]
  omega
theorem xG {CX : CXT} {P : Program} {w : World} {K : PySem.W.Frag} {mg : Str -> Option Value} {base : Heap} {k : Nat} {f : Addr} {name qual : Str} {params : Arguments} {body : List Stmt} {scope : Scope} {dV kV doc pm cdv ct oc : Value} {an od : Option Addr}
  {osl : Array (Option Value)} {N ps : List Str} {sp : Sp} (lk : K.lookup f = some ⟨oc, od, .func (PySem.W.fnOf name qual params body scope dV kV doc pm an cdv ct), osl⟩) (hcd : PySem.W.codeIn K cdv qual = true) (S : aH N ps scope)
  (len : ∀ vs H Q E, sp vs H Q E -> vs.length = ps.length)
  (hbody : ∀ (A : Around) (outer : List Env) (s : Shared) (H : Hp) (vs : List V) (Q : VK) (E : XK), dR k (A.deeper (envOfC qual scope s.heap.objs.size f cdv)) -> sp vs H Q E ->
   ∃ t, PSs (qL CX P w K mg base N qual scope f cdv A outer s H E) body t /\ t { nx := fun _ H' => Q .non H', rt := Q } (gF N vs) H) :
  bi P w K mg base CX (k + 1) f (PySem.W.fnOf name qual params body scope dV kV doc pm an cdv ct) ps sp := by
 refine ⟨len, fun A outer s H args us vs Q E hr e0 hb r hsp => ?_⟩
 have hl := len _ _ _ _ hsp
 have KX : K.In s.heap := e0.mod.kin.keeps fun b o e => (e0.bs b o e).1
 have lim : s.heap.NoLimit := e0.mod.nolimit.keeps fun b o e => (e0.bs b o e).1
 have hkind : ∀ y ∈ ps.zip us, scope.names.lookup y.1 = some .local \/ (scope.names.lookup y.1 = some .cell /\ ((cellsFrom (s.heap.objs.size + 1) scope.names []).lookup y.1).isSome = true) := fun ⟨n, v⟩ hy => by
  rcases S.par n (List.of_mem_zip hy).1 with q | q
  ·exact .inl q
  ·exact .inr ⟨q, PySem.W.cellsFrom_some _ _ _ (.inl q)⟩
 refine codeAny_call_function hr.depth (KX _ _ lk) rfl S.co S.gen rfl (PySem.W.codeRec_of KX hcd) (hb _ _ _ _ ?_)
 refine wpAny_newFunctionEnv_cells S.kind hkind fun env he s1 x => ?_
 subst he
 refine ⟨lim.keeps x.toInCall.keep, codeAny_func ?_⟩
 obtain ⟨t, ht, hq⟩ := hbody A outer s H vs Q E (hr.deeper _) hsp
 have I : Inv (qL CX P w K mg base N qual scope f cdv A outer s H E) [] (gF N vs) H s1 := qA S hr.hd e0 hl r x
 refine wpAny_mono (ht [] s1 (gF N vs) H _ I hq) (fun fl s' hs => ?_) fun e s' hs => hs
 have fin : ∀ {σ' : St} {H' : Hp} {v : V} {u : Value}, Inv (qL CX P w K mg base N qual scope f cdv A outer s H E) [] σ' H' s' -> aQ v u -> Q v H' -> CE outer P w H s Q u s' :=
  fun {σ' H' v u} J rv q => ⟨v, H', J.os, J.bare, J.base, J.hok, rv, q⟩
 cases fl with
 | ret u =>
  obtain ⟨v, σ', H', J, rv, q⟩ := hs
  exact fin J rv q
 | next =>
  obtain ⟨σ', H', J, q⟩ := hs
  exact fin (v := V.non) (u := Value.none) J rfl q
 | brk =>
  obtain ⟨_, _, _, q⟩ := hs
  exact False.elim q
 | cont =>
  obtain ⟨_, _, _, q⟩ := hs
  exact False.elim q
section
variable {X : Cx} {x : Str} {p pos : Pos} {e : Expr} {es : List Expr} {t : TA} {id T : String} {r : List V -> Hp -> VK -> Prop}
def tCB (r : List V -> Hp -> VK -> Prop) (t : TA) : TE := fun σ H Q => t σ H fun vs H1 => r vs H1 Q
theorem ax (hc : dP X (.builtin id) r) (hg : Gl X x) (hm : X.mg x = none) (hv : bootBuiltins x = some (.builtin id)) (ha : PA X (e :: es) t) (hn : x ≠ "__name__" := by decide) (hdb : (x == ("__debug__" : Str)) = false := by decide)
  (he : starEach (e :: es) X.env = (false, eval e X.env) :: starEach es X.env := by rfl) (hpl : (backTo pos (starEach es X.env)).any (·.1) = false := by rfl) : PE X (.Call (.Name x p) (e :: es) [] pos) (tCB r t) := by
 intro pins s σ H Q I h
 refine wpAny_Call_Name_kw (eC I hg hm hv ?_ hn hdb)
 exact PyProof.Rows.callWith_builtin1 (thn (ha pos pins s σ H _ I h) fun us s1 ⟨vs, H1, I1, r1, q1⟩ => hc pins s1 σ H1 vs us Q I1 r1 q1) he hpl
theorem dw (hc : dP X (.type T) r) (hg : Gl X x) (hm : X.mg x = none) (hv : bootBuiltins x = some (.type T)) (ha : PA X (e :: es) t) (hn : x ≠ "__name__" := by decide) (hdb : (x == ("__debug__" : Str)) = false := by decide)
  (he : starEach (e :: es) X.env = (false, eval e X.env) :: starEach es X.env := by rfl) (hpl : (backTo pos (starEach es X.env)).any (·.1) = false := by rfl) : PE X (.Call (.Name x p) (e :: es) [] pos) (tCB r t) := by
 intro pins s σ H Q I h
 refine wpAny_Call_Name_kw (eC I hg hm hv ?_ hn hdb)
 exact PyProof.Rows.callWith_type1 (thn (ha pos pins s σ H _ I h) fun us s1 ⟨vs, H1, I1, r1, q1⟩ => hc pins s1 σ H1 vs us Q I1 r1 q1) he hpl
end
section
variable {κ : Type} [DecidableEq κ]
def eS (kvs : List (κ × V)) (k : κ) : Option V := (kvs.find? fun kv => decide (kv.1 = k)).map (·.2)
def dZ (kvs : List (κ × V)) (k : κ) (v : V) : List (κ × V) :=
 if (kvs.any fun kv => decide (kv.1 = k)) = true then kvs.map (fun kv => if kv.1 = k then (kv.1, v) else kv) else kvs ++ [(k, v)]
theorem gi {p : κ × V} {r : List (κ × V)} {k : κ} (e : p.1 = k) : eS (p :: r) k = some p.2 := by simp [eS, List.find?_cons, e]
theorem fR {p : κ × V} {r : List (κ × V)} {k : κ} (e : ¬ p.1 = k) : eS (p :: r) k = eS r k := by simp [eS, List.find?_cons, e]
theorem mL (k : κ) : ∀ kvs : List (κ × V), (kvs.any fun kv => decide (kv.1 = k)) = (eS kvs k).isSome
 | [] => rfl
 | p :: r => by
  rw [List.any_cons]
  by_cases e : p.1 = k
  ·simp only [gi e, decide_eq_true e, Bool.true_or, Option.isSome_some]
  ·rw [fR e, decide_eq_false e, Bool.false_or]; exact mL k r
theorem gI (kvs : List (κ × V)) (k : κ) (v : V) : (dZ kvs k v).length <= kvs.length + 1 := by
 unfold dZ
 split
 ·rw [List.length_map]; omega
 ·rw [List.length_append, List.length_cons, List.length_nil]; omega
theorem oE.isSome_eq {o : Option V} {u : Option Value} (r : oE o u) : o.isSome = u.isSome := by
 cases o with
 | none => cases u with
  | none => rfl
  | some _ => exact (show False from r).elim
 | some _ => cases u with
  | none => exact (show False from r).elim
  | some _ => rfl
theorem KV.val {kvs : List (κ × V)} {vs : List (κ × Value)} (r : KV kvs vs) (k : κ) : oE (eS kvs k) (valueAt vs k) := by
 unfold KV at r
 induction r with
 | nil => exact True.intro
 | @cons p q ps qs h t ih =>
  obtain ⟨h1, h2⟩ := h
  by_cases e : p.1 = k
  ·have e' : q.1 = k := h1.symm.trans e
   have b : valueAt (q :: qs) k = some q.2 := by simp [valueAt, List.find?_cons, e']
   rw [gi e, b]; exact h2
  ·have e' : ¬ q.1 = k := fun z => e (h1.trans z)
   have b : valueAt (q :: qs) k = valueAt qs k := by simp [valueAt, List.find?_cons, e']
   rw [fR e, b]; exact ih
theorem KV.any {kvs : List (κ × V)} {vs : List (κ × Value)} (r : KV kvs vs) (k : κ) : (kvs.any fun kv => decide (kv.1 = k)) = vs.any fun kv => decide (kv.1 = k) := by
 unfold KV at r
 induction r with
 | nil => rfl
 | cons h t ih => rw [List.any_cons, List.any_cons, ih, h.1]
theorem KV.repl {kvs : List (κ × V)} {vs : List (κ × Value)} (r : KV kvs vs) (k : κ) {y : V} {u : Value} (ry : aQ y u) :
  KV (kvs.map fun kv => if kv.1 = k then (kv.1, y) else kv) (vs.map fun kv => if kv.1 = k then (kv.1, u) else kv) := by
 unfold KV at r ⊢
 induction r with
 | nil => exact .nil
 | @cons p q ps qs h t ih =>
  rw [List.map_cons, List.map_cons]
  refine .cons ?_ ih
  obtain ⟨h1, h2⟩ := h
  by_cases e : p.1 = k
  ·rw [if_pos e, if_pos (h1.symm.trans e)]; exact ⟨h1, ry⟩
  ·rw [if_neg e, if_neg (fun z => e (h1.trans z))]; exact ⟨h1, h2⟩
theorem KV.put {kvs : List (κ × V)} {vs : List (κ × Value)} (r : KV kvs vs) (k : κ) {y : V} {u : Value} (ry : aQ y u) : KV (dZ kvs k y) (stored vs k u) := by
 unfold dZ stored
 rw [r.any k]
 by_cases e : (vs.any fun kv => decide (kv.1 = k)) = true
 ·rw [if_pos e, if_pos e]; exact r.repl k ry
 ·rw [if_neg e, if_neg e]; exact Paired.snoc r ⟨rfl, ry⟩
theorem KV.keys {kvs : List (κ × V)} {vs : List (κ × Value)} (r : KV kvs vs) : kvs.map (·.1) = vs.map (·.1) := by
 unfold KV at r
 induction r with
 | nil => rfl
 | cons h t ih => rw [List.map_cons, List.map_cons, ih, h.1]
theorem KV.length {kvs : List (κ × V)} {vs : List (κ × Value)} (r : KV kvs vs) : kvs.length = vs.length := Paired.length r
end
theorem jp {P : Program} {w : World} {k : Key} {u : Value} (r : aQ (kV k) u) : (be P w).is k u = true := by
 cases k with
 | inl i => obtain ⟨t, e⟩ := (show ∃ t, u = Value.int i t from r); subst e; exact lq P w i t
 | inr x => obtain ⟨t, e⟩ := (show ∃ t, u = Value.str x t from r); subst e; exact eY P w x t
theorem jG {P : Program} {w : World} : ∀ {ks : List Key} {us : List Value}, aL (ks.map kV) us -> ItemsAre (be P w) ks us
 | [], _, r => by rw [List.map_nil] at r; cases r; exact .nil
 | k :: ks, _, r => by
  rw [List.map_cons] at r
  cases r with
  | cons h t => exact .cons (jp h) (jG t)
abbrev KT (H : Hp) : List (List Key × V) -> List (List Key × Addr × Value) -> Prop := Paired fun p q => p.1 = q.1 /\ H q.2.1 = some (.tup (p.1.map kV)) /\ aQ p.2 q.2.2
theorem KT.val {H : Hp} {kvs : List (List Key × V)} {xs : List (List Key × Addr × Value)} (r : KT H kvs xs) (k : List Key) : oE (eS kvs k) ((atKey xs k).map (·.2)) := by
 induction r with
 | nil => exact True.intro
 | @cons p q ps qs h t ih =>
  obtain ⟨h1, _, h2⟩ := h
  by_cases e : p.1 = k
  ·have e' : q.1 = k := h1.symm.trans e
   have b : atKey (q :: qs) k = some q.2 := by simp [atKey, List.find?_cons, e']
   rw [gi e, b]; exact h2
  ·have e' : ¬ q.1 = k := fun z => e (h1.trans z)
   have b : atKey (q :: qs) k = atKey qs k := by simp [atKey, List.find?_cons, e']
   rw [fR e, b]; exact ih
theorem KT.repl {H : Hp} {kvs : List (List Key × V)} {xs : List (List Key × Addr × Value)} (r : KT H kvs xs) (k : List Key) {y : V} {u : Value} (ry : aQ y u) :
  KT H (kvs.map fun kv => if kv.1 = k then (kv.1, y) else kv) (xs.map (putAt k u)) := by
 induction r with
 | nil => exact .nil
 | @cons p q ps qs h t ih =>
  rw [List.map_cons, List.map_cons]
  refine .cons ?_ ih
  obtain ⟨h1, h2, h3⟩ := h
  unfold putAt
  by_cases e : p.1 = k
  ·rw [if_pos e, if_pos (h1.symm.trans e)]; exact ⟨h1, h2, ry⟩
  ·rw [if_neg e, if_neg (fun z => e (h1.trans z))]; exact ⟨h1, h2, h3⟩
theorem KT.put {H : Hp} {kvs : List (List Key × V)} {xs : List (List Key × Addr × Value)} (r : KT H kvs xs) (k : List Key) {b : Addr} {y : V} {u : Value} (hb : H b = some (.tup (k.map kV))) (ry : aQ y u) :
  KT H (dZ kvs k y) (storedH xs k b u) := by
 have e : (kvs.any fun kv => decide (kv.1 = k)) = (atKey xs k).isSome := by
  rw [mL, (r.val k).isSome_eq, Option.isSome_map]
 unfold dZ storedH
 rw [e]
 by_cases q : (atKey xs k).isSome = true
 ·rw [if_pos q, if_pos q]; exact r.repl k ry
 ·rw [if_neg q, if_neg q]; exact Paired.snoc r ⟨rfl, hb, ry⟩
theorem KT.keeps {H H' : Hp} {kvs : List (List Key × V)} {xs : List (List Key × Addr × Value)} (r : KT H kvs xs) (ht : ∀ b ys, H b = some (.tup ys) -> H' b = some (.tup ys)) : KT H' kvs xs :=
 Paired.mapP r fun _ _ z => ⟨z.1, ht _ _ z.2.1, z.2.2⟩
section
variable {P : Program} {w : World} {H : Hp} {h : Heap} {a : Addr}
theorem vd {u : HO} (ok : HOk P w H h) (e : Rd H a u) : bo P w H h a u := e.ok ok
theorem oZ {kvs : List (Key × V)} (ok : HOk P w H h) (e : Rd H a (.dK kvs)) : kvs.length <= sizeLine /\ (a == sysModules) = false /\ ∃ vs, KV kvs vs /\ h.DictOf (be P w) a vs :=
 show bo P w H h a (.dK kvs) from vd ok e
theorem tu {kvs : List (Key × V)} (ok : HOk P w H h) (e : H a = some (.dK kvs)) : kvs.length <= sizeLine /\ (a == sysModules) = false /\ ∃ vs, KV kvs vs /\ h.DictOf (be P w) a vs := oZ ok (.inl e)
theorem kg {ks : List Key} (ok : HOk P w H h) (e : H a = some (.tup (ks.map kV))) : (tupleKind (be P w)).is h ks a := by
 obtain ⟨_, its, r, ⟨o, h1, h2, n, h3⟩, _⟩ := (show bo P w H h a (.tup (ks.map kV)) from ok a _ e)
 exact ⟨o, its.toArray, n, h1, h2, h3, by simpa using jG r⟩
theorem sJ {kvs : List (List Key × V)} (ok : HOk P w H h) (e : Rd H a (.dT kvs)) : kvs.length <= sizeLine /\ (a == sysModules) = false /\
  ∃ xs, KT H kvs xs /\ h.DictOfH (tupleKind (be P w)) a xs := by
 obtain ⟨z, y, xs, r, o, es, ep, h1, h2, h3, h4, h5⟩ := (show bo P w H h a (.dT kvs) from vd ok e)
 refine ⟨z, y, xs, r, o, es, ep, h1, h2, h3, h4, fun x hx => ?_, h5⟩
 have all : ∀ {l : List (List Key × V)} {m : List (List Key × Addr × Value)}, KT H l m -> ∀ x ∈ m, (tupleKind (be P w)).is h x.1 x.2.1 := by
  intro l m q
  induction q with
  | nil => intro x hx; exact nomatch hx
  | @cons p q ps qs hq t ih =>
   intro x hx
   rcases List.mem_cons.mp hx with e | hx
   ·subst e
    exact kg ok (by rw [<- hq.1]; exact hq.2.1)
   ·exact ih x hx
 exact all r x hx
theorem xD {kvs : List (List Key × V)} (ok : HOk P w H h) (e : H a = some (.dT kvs)) : kvs.length <= sizeLine /\ (a == sysModules) = false /\
  ∃ xs, KT H kvs xs /\ h.DictOfH (tupleKind (be P w)) a xs := sJ ok (.inl e)
end
def om (H : Hp) (a : Addr) (y : V) (r : Option V) : Prop :=
 (∃ kvs k, Rd H a (.dK kvs) /\ y = kV k /\ r = eS kvs k) \/ ∃ kvs k b, Rd H a (.dT kvs) /\ y = .ref b /\ H b = some (.tup (k.map kV)) /\ r = eS kvs k
def mv (H : Hp) (a : Addr) (y v : V) (H' : Hp) : Prop :=
 (∃ kvs k, H a = some (.dK kvs) /\ y = kV k /\ kvs.length < sizeLine /\ H' = upd H a (.dK (dZ kvs k v))) \/
 ∃ kvs k b, H a = some (.dT kvs) /\ y = .ref b /\ H b = some (.tup (k.map kV)) /\ kvs.length < sizeLine /\ H' = upd H a (.dT (dZ kvs k v))
theorem om.k {H : Hp} {a : Addr} {kvs : List (Key × V)} {k : Key} (e : H a = some (.dK kvs)) : om H a (kV k) (eS kvs k) := .inl ⟨kvs, k, .inl e, rfl, rfl⟩
theorem mv.k {H : Hp} {a : Addr} {kvs : List (Key × V)} {k : Key} {v : V} (e : H a = some (.dK kvs)) (hl : kvs.length < sizeLine) : mv H a (kV k) v (upd H a (.dK (dZ kvs k v))) := .inl ⟨kvs, k, e, rfl, hl, rfl⟩
section
variable {X : Cx} {pins : List (Addr × Obj)} {σ : St} {H : Hp} {s : Shared} {a : Addr} {y v : V} {u r : Value} {o : Option V} {A : Around} {E : Value -> Shared -> Prop}
theorem Inv.big (I : Inv X pins σ H s) : sysModules < s.heap.objs.size := by
 have h : mainGlobals < s.heap.objs.size := (I.mod.glob.keeps I.bk).lt
 exact Nat.lt_trans (by decide) h
theorem yi {Q : Value -> Shared -> Prop} (hu : A.units + 1 < cLine) (I : Inv X pins σ H s) (g : om H a y o) (ry : aQ y u) (h : ∀ s', Inv X pins σ H s' -> Q (.bool o.isSome) s') :
  wpAny (model X.prog X.w) A (compareOp .In u (.ref a)) Q E s := by
 rcases g with ⟨kvs, k, e, ey, l⟩ | ⟨kvs, k, b, e, ey, eb, l⟩
 ·subst ey
  obtain ⟨z, hd, vs, rel, dd⟩ := oZ I.hok e
  refine wpAny_in_of (jp ry) hd dd.mapOf ?_
  rw [<- (rel.val k).isSome_eq, <- l]
  exact h _ (I.tok _)
 ·subst ey
  cases (show u = Value.ref b from ry)
  obtain ⟨z, hd, xs, rel, dd⟩ := sJ I.hok e
  refine wpAny_in_heap (tupleKind_room_in1 hu) (kg I.hok eb) hd dd ?_
  have q := (rel.val k).isSome_eq
  rw [Option.isSome_map] at q
  rw [<- q, <- l]
  exact h _ (I.tok _)
theorem uc {Q : Value -> Shared -> Prop} (hu : A.units + 1 < cLine) (I : Inv X pins σ H s) (g : om H a y o) (ry : aQ y u) (h : ∀ s', Inv X pins σ H s' -> Q (.bool (!o.isSome)) s') :
  wpAny (model X.prog X.w) A (compareOp .NotIn u (.ref a)) Q E s := by
 rcases g with ⟨kvs, k, e, ey, l⟩ | ⟨kvs, k, b, e, ey, eb, l⟩
 ·subst ey
  obtain ⟨z, hd, vs, rel, dd⟩ := oZ I.hok e
  refine wpAny_notIn_of (jp ry) hd dd.mapOf ?_
  rw [<- (rel.val k).isSome_eq, <- l]
  exact h _ (I.tok _)
 ·subst ey
  cases (show u = Value.ref b from ry)
  obtain ⟨z, hd, xs, rel, dd⟩ := sJ I.hok e
  refine wpAny_notIn_heap (tupleKind_room_in1 hu) (kg I.hok eb) hd dd ?_
  have q := (rel.val k).isSome_eq
  rw [Option.isSome_map] at q
  rw [<- q, <- l]
  exact h _ (I.tok _)
theorem pC {h' : Heap} {t' : Nat} {ob : HO} (I : Inv X pins σ H s) (mu : Mut (H a)) (hs : Heap.SameBut a s.heap h') (he : ∃ q, h'.get? a = some q) (new : bo X.prog X.w (upd H a ob) h' a ob) :
  Inv X pins σ (upd H a ob) { s with heap := h', toks := t' } :=
 I.write (x := a) (e := a) mu (.inl rfl) (fun b q hb z => (hs.2 b hb).trans z) he new
theorem wv {P : Program} {w : World} {H' : Hp} {h' : Heap} {kvs : List (Key × V)} {vs : List (Key × Value)} (z : kvs.length <= sizeLine) (hd : (a == sysModules) = false) (rel : KV kvs vs) (dd : h'.DictOf (be P w) a vs) :
  bo P w H' h' a (.dK kvs) := ⟨z, hd, vs, rel, dd⟩
theorem qi {H' : Hp} {Q : Unit -> Shared -> Prop} (hu : A.units + 1 < cLine) (I : Inv X pins σ H s) (g : mv H a y v H') (ry : aQ y u) (rv : aQ v r) (h : ∀ s', Inv X pins σ H' s' -> Q () s') :
  wpAny (model X.prog X.w) A (setItem (.ref a) u r) Q E s := by
 rcases g with ⟨kvs, k, e, ey, l, eH⟩ | ⟨kvs, k, b, e, ey, eb, l, eH⟩
 ·subst ey eH
  obtain ⟨z, hd, vs, rel, dd⟩ := tu I.hok e
  have hz : vs.length <= sizeLine := by rw [<- rel.length]; exact z
  have hl : (dZ kvs k v).length <= sizeLine := by have := gI kvs k v; omega
  refine wpAny_setItem_pairs (hsz := hz) (jp ry) dd fun h' dd' hs => h _ ?_
  have he : ∃ q, h'.get? a = some q := let ⟨q, _, _, hq, _⟩ := dd'; ⟨q, hq⟩
  exact pC I (by rw [e]; exact True.intro) hs he (wv hl hd (rel.put k rv) dd')
 ·subst ey eH
  cases (show u = Value.ref b from ry)
  obtain ⟨z, hd, xs, rel, dd⟩ := xD I.hok e
  have hz : xs.length <= sizeLine := by rw [<- Paired.length rel]; exact z
  have hl : (dZ kvs k v).length <= sizeLine := by have := gI kvs k v; omega
  refine wpAny_setItem_heap (hsz := hz) (tupleKind_room_in1 hu) (kg I.hok eb) dd fun h' dd' hs => h _ ?_
  obtain ⟨q, es, ep, hq, h2, h3, h4, _, h5⟩ := dd'
  refine pC I (by rw [e]; exact True.intro) hs ⟨q, hq⟩ ⟨hl, hd, _, (rel.put k eb rv).keeps fun c ys ec => ?_, q, es, ep, hq, h2, h3, h4, h5⟩
  rw [aE (wU ec e (fun z => nomatch z))]
  exact ec
end
section
variable {X : Cx} {pins : List (Addr × Obj)} {σ : St} {H : Hp} {s : Shared} {a : Addr} {kvs : List (Key × V)} {k : Key} {u : Value} {A : Around} {E : Value -> Shared -> Prop}
theorem xC {Q : Value -> Shared -> Prop} (I : Inv X pins σ H s) (e : Rd H a (.dK kvs)) (h : ∀ t s', Inv X pins σ H s' -> Q (.int kvs.length t) s') : wpAny (model X.prog X.w) A (call (.builtin "len") [.ref a]) Q E s := by
 obtain ⟨z, hd, vs, rel, dd⟩ := oZ I.hok e
 refine call_len_dict hd dd (by rw [<- rel.length]; rw [sizeLine_eq] at z; omega) ?_
 rw [<- rel.length]
 exact h _ _ (I.tok _)
end
def wQ (i : Expr) : Prop := ∀ ov iv, subscripted i false ov iv = operate [ov, iv] (getItem ov iv)
theorem tS {prog : Program} {w : World} {A : Around} {E : Value -> Shared -> Prop} {s : Shared} {env : Env} {value slice : Expr} {pos : Pos} {T id : String} {Q : Value -> Shared -> Prop}
  (hl : typeLookup (.type T) "__getitem__" = pure (some (.builtin id))) (hs : wQ slice)
  (h : wpAny (model prog w) A (eval value env) (fun o s₁ => wpAny (model prog w) A (eval slice env) (fun i s₂ => s₂.TypeIs o T /\ wpAny (model prog w) A (getItem o i) Q E s₂) E s₁) E s) :
  wpAny (model prog w) A (eval (.Subscript value slice pos) env) Q E s := by
 refine Subscript_ (wpAny_mono h (fun o s₁ h₁ => wpAny_mono h₁ (fun i s₂ h₂ => ?_) fun _ _ x => x) fun _ _ x => x)
 obtain ⟨hT, h₂⟩ := h₂
 unfold subscriptTail
 refine wpAny_bind ?_
 rw [getitemInPython_of_ne hT.not_modules]
 refine wpAny_bind (wpAny_specialOf hT hl ?_)
 have fin : wpAny (model prog w) A (subscripted slice false o i) (fun r s₃ => wpAny (model prog w) A (letTemporaryGo value o r >>= fun _ => pure r) Q E s₃) E s₂ := by
  rw [hs o i]
  exact wpAny_operating (wpAny_mono h₂ (fun r s₃ h₃ => wpAny_bind (wpAny_letTemporaryGo (wpAny_pure h₃))) fun _ _ x => x)
 first
  | exact wpAny_pure (wpAny_bind fin)
  | exact wpAny_bind (wpAny_pure (wpAny_bind fin))
  | exact wpAny_bind fin
def xR (td ty tv : TE) : TS := fun D σ H => tv σ H fun v H1 => td σ H1 fun x H2 => ty σ H2 fun y H3 => ∃ a H4, x = .ref a /\ mv H3 a y v H4 /\ D.nx σ H4
section
variable {X : Cx} {o i e value : Expr} {pos pos' tpos : Pos} {td ty tv : TE}
theorem ic (hu : X.A.units + 1 < cLine) (ho : PE X o td) (hi : PE X i ty) (hv : PE X value tv) (hs : swapsWith value (some (.Subscript o i pos')) pos.line X.env = pure false) :
  PS X (.Assign [.Subscript o i pos'] value pos) (xR td ty tv) := by
 intro pins s σ H D I h
 refine wpAny_Assign_Subscript (thn (hv pins s σ H _ I h) fun r s1 ⟨v, H1, I1, rv, q1⟩ => thn (ho pins s1 σ H1 _ I1 q1) fun u s2 ⟨x, H2, I2, rx, q2⟩ => thn (hi pins s2 σ H2 _ I2 q2) fun iv s3 ⟨y, H3, I3, ry, a, H4, ex, g, q3⟩ => ?_) hs
 subst ex
 obtain rfl : u = Value.ref a := rx
 exact qi hu I3 g ry rv fun s4 I4 => ⟨σ, H4, I4, q3⟩
end
theorem rE {P : Program} {w : World} {H : Hp} (h : Heap) (hb : sysModules < h.objs.size) : bo P w H (h.push { cls := .type "dict", data := .dict #[] }) h.objs.size (.dK []) :=
 ⟨Nat.zero_le _, beq_eq_false_iff_ne.mpr (Ne.symm (Nat.ne_of_lt hb)), [], .nil, Heap.DictOf.new h⟩
def wz : TE := fun _ H Q => ∀ p, H p = none -> Q (.ref p) (upd H p (.dK []))
section
variable {X : Cx} {pos : Pos}
theorem iG : PE X (.Dict [] [] pos) wz := fun pins s σ H Q I h =>
 wpAny_Dict_empty ⟨.ref s.heap.objs.size, _, I.laid (a := s.heap.objs.size) (o := .dK []) (t' := s.toks) (fun _ _ q => Heap.get?_push_of_some _ q) (Nat.le_refl _) (rE s.heap I.big), rfl, h _ (I.hok.fresh (Nat.le_refl _))⟩
end
section
variable {X : Cx} {pins : List (Addr × Obj)} {σ : St} {H : Hp} {s : Shared} {a : Addr} {y d : V} {u r : Value} {o : Option V} {A : Around} {E : Value -> Shared -> Prop}
end
section
variable {X : Cx} {o e f : Expr} {apos cpos : Pos} {td ty tx : TE}
end
section
variable {X : Cx} {pins : List (Addr × Obj)} {σ : St} {H : Hp} {s : Shared} {a : Addr} {kvs : List (Key × V)} {A : Around} {E : Value -> Shared -> Prop}
end
section
variable {X : Cx} {pins : List (Addr × Obj)} {σ : St} {H : Hp} {s : Shared} {a : Addr} {y : V} {u : Value} {A : Around} {E : Value -> Shared -> Prop}
end
end L2
namespace HT
open PySem PyProof.Rows
section
open PySem.SeqAt
open PySem.AutoSeq1 (wpAny_loadPart')
open PySem.MeetsSeq PySem.MeetsSeq2 PySem.MeetsSeq3
end
section
variable {prog : Program} {w : World} {A : Around} {E : Value -> Shared -> Prop} {s : Shared}
def sIx (n d : Nat) : Option Int -> Nat
 | none => d
 | some v => if v < 0 then (v + (n : Int)).toNat else min v.toNat n
theorem sIx_none (n d : Nat) : sIx n d none = d := rfl
theorem sIx_nat (n d k : Nat) : sIx n d (some (k : Int)) = min k n := by
 show (if (k : Int) < 0 then ((k : Int) + (n : Int)).toNat else min (k : Int).toNat n) = min k n
 rw [if_neg (by omega), Int.toNat_natCast]
theorem vG (n d : Nat) (hd : d <= n) (o : Option Int) : sIx n d o <= n := by
 cases o with
 | none => exact hd
 | some v =>
  show (if v < 0 then (v + (n : Int)).toNat else min v.toNat n) <= n
  by_cases hv : v < 0
  ·rw [if_pos hv]; omega
  ·rw [if_neg hv]; exact Nat.min_le_right _ _
theorem oJ (v : Int) (n d : Nat) : (if v < 0 then max (v + (n : Int)) 0 else min v (n : Int)) = ((sIx n d (some v) : Nat) : Int) := by
 show (if v < 0 then max (v + (n : Int)) 0 else min v (n : Int)) = (((if v < 0 then (v + (n : Int)).toNat else min v.toNat n) : Nat) : Int)
 by_cases hv : v < 0
 ·simp only [if_pos hv]; omega
 ·simp only [if_neg hv]; omega
theorem nC (lo hi : Option Int) (n : Nat) : Builtin.Slice.sliceAdjust lo hi 1 (n : Int) = (((sIx n 0 lo : Nat) : Int), ((sIx n n hi : Nat) : Int)) := by
 have h1 : ¬ ((1 : Int) < 0) := by omega
 unfold Builtin.Slice.sliceAdjust
 simp only [h1, if_false]
 refine Prod.ext ?_ ?_
 ·cases lo with
  | none => rfl
  | some v => exact oJ v n 0
 ·cases hi with
  | none => rfl
  | some v => exact oJ v n n
theorem oi (i j : Nat) : Builtin.Slice.slicePlaces (i : Int) (j : Int) 1 = j - i := by
 unfold Builtin.Slice.slicePlaces
 have h1 : (1 : Int) > 0 := by omega
 simp only [h1, if_true, Int.ediv_one]
 split <;> omega
theorem iL {v : Value} {o : Option Int} {Q : Option Int -> Shared -> Prop} (p : IsPart v o) (h : Q o s) : wpAny (model prog w) A (Builtin.Slice.slicePartIndex v) Q E s := by
 cases p with
 | none => exact slicePart_none h
 | int i t => exact slicePart_int h
theorem sliceApplied_gen {sl : Addr} {vl vu : Value} {lo hi : Option Int} {n : Nat} {Q : Int × Int × Nat -> Shared -> Prop} (hs : s.heap.IsSliceOf sl vl vu .none) (pl : IsPart vl lo) (pu : IsPart vu hi)
  (h : Q (((sIx n 0 lo : Nat) : Int), 1, sIx n n hi - sIx n 0 lo) s) : wpAny (model prog w) A (Builtin.Slice.sliceApplied (.ref sl) (pure (n : Int))) Q E s := by
 obtain ⟨os, hos, hcs, hds⟩ := id hs
 unfold Builtin.Slice.sliceApplied Builtin.Slice.sliceFields
 refine wpAny_bind (wpAny_bind (wpAny_field hos hds (x := vl) rfl (wpAny_bind (wpAny_field hos hds (x := vu) rfl (wpAny_bind (wpAny_field hos hds (x := .none) rfl (wpAny_pure ?_)))))))
 refine wpAny_bind (slicePart_none ?_)
 show wpAny _ _ (if ((1 : Int) == 0) = true then _ else _) _ _ s
 rw [if_neg (by decide)]
 refine wpAny_bind (iL pl (wpAny_bind (iL pu (wpAny_bind (wpAny_pure ?_)))))
 show wpAny _ _ (match Builtin.Slice.sliceAdjust lo hi 1 (n : Int) with | (lo, hi) => pure (lo, (1 : Int), Builtin.Slice.slicePlaces lo hi 1)) _ _ s
 rw [nC lo hi n]
 show wpAny _ _ (pure (((sIx n 0 lo : Nat) : Int), (1 : Int), Builtin.Slice.slicePlaces ((sIx n 0 lo : Nat) : Int) ((sIx n n hi : Nat) : Int) 1)) _ _ s
 rw [oi]
 exact wpAny_pure h
theorem pick_gen (xs : Array Value) (i k : Nat) : ((List.range k).filterMap fun (m : Nat) => xs[((i : Int) + (m : Int) * 1).toNat]?).toArray = ((xs.toList.drop i).take k).toArray := by
 have e : (fun (m : Nat) => xs[((i : Int) + (m : Int) * 1).toNat]?) = fun m => xs[i + m]? := by
  funext m
  have : ((i : Int) + (m : Int) * 1).toNat = i + m := by omega
  rw [this]
 rw [e]
 have := pick_run xs i k
 rw [List.filterMap_map] at this
 have e2 : ((fun x => xs[x]?) ∘ fun x => i + x) = fun m => xs[i + m]? := rfl
 rw [e2] at this
 rw [this]
theorem getItem_tuple_cut {t sl : Addr} {items : Array Value} {vl vu : Value} {lo hi : Option Int} {Q : Value -> Shared -> Prop} (ht : IsTup s.heap t items) (hs : s.heap.IsSliceOf sl vl vu .none) (pl : IsPart vl lo) (pu : IsPart vu hi)
  (hw : ¬ (sIx items.size 0 lo = 0 /\ sIx items.size items.size hi = items.size))
  (h : Q (.ref s.heap.objs.size) { s with heap := s.heap.push { cls := .type "tuple", data := .seq ((items.toList.drop (sIx items.size 0 lo)).take (sIx items.size items.size hi - sIx items.size 0 lo)).toArray } })
  (hsz : items.size <= sizeLine) : wpAny (model prog w) A (getItem (.ref t) (.ref sl)) Q E s := by
 have htake : sizeOk (.seq ((items.toList.drop (sIx items.size 0 lo)).take (sIx items.size items.size hi - sIx items.size 0 lo)).toArray) := by
  show ((items.toList.drop (sIx items.size 0 lo)).take (sIx items.size items.size hi - sIx items.size 0 lo)).toArray.size <= sizeLine
  rw [List.size_toArray, List.length_take, List.length_drop, Array.length_toList]
  omega
 have hj : sIx items.size items.size hi <= items.size := vG _ _ (Nat.le_refl _) hi
 obtain ⟨os, hos, hcs, hds⟩ := id hs
 have hTs : s.TypeIs (.ref sl) "slice" := ⟨os, hos, hcs⟩
 unfold getItem
 try with_reducible refine wpAny_holding ?_
 first | refine wpAny_bind (wpAny_pure ?_) | skip
 refine wpAny_bind (wpAny_sequenceKey ht.typeIs (by decide) ?_)
 refine wpAny_bind (wpAny_callSpecial?_slot (name := Str.ofString "__getitem__") ht.typeIs PyProof.Rows.slot_tuple_getitem
  (wpAny_call_entry PyProof.Rows.slot_tuple_getitem ht.typeIs entry_tuple_getitem ?_ (args_tuple_getitem _ _)))
 show wpAny _ _ (Builtin.Tuple.tupleItemsOf (.ref t) >>= _) _ _ s
 refine wpAny_bind (tupleItemsOf_ ht ?_)
 refine wpAny_bind (wpAny_typeOf hTs ?_)
 rw [if_pos (by decide)]
 refine wpAny_bind (sliceApplied_gen hs pl pu ?_)
 have hno : ¬ ((((sIx items.size 0 lo : Nat) : Int) == 0 && (1 : Int) == 1 && (sIx items.size items.size hi - sIx items.size 0 lo) == items.size) = true) := by
  intro q
  rw [Bool.and_eq_true, Bool.and_eq_true] at q
  have q1 : ((sIx items.size 0 lo : Nat) : Int) = 0 := eq_of_beq q.1.1
  have q2 : sIx items.size items.size hi - sIx items.size 0 lo = items.size := eq_of_beq q.2
  exact hw ⟨by omega, by omega⟩
 show wpAny _ _ (if (((sIx items.size 0 lo : Nat) : Int) == 0 && (1 : Int) == 1 && (sIx items.size items.size hi - sIx items.size 0 lo) == items.size) = true then _ else _) _ _ s
 rw [if_neg hno, pick_gen]
 first
  | exact wpAny_bind (m := Builtin.Tuple.tupleExact _) (wpAny_newObj_type (wpAny_pure ⟨_, rfl, wpAny_pure h⟩) htake)
  | exact wpAny_bind (m := Builtin.Tuple.tupleExact _) (wpAny_newObj_type (wpAny_bind (wpAny_pure (wpAny_pure ⟨_, rfl, wpAny_pure h⟩))) htake)
  | exact wpAny_bind (wpAny_bind (m := Builtin.Tuple.tupleExact _) (wpAny_newObj_type (wpAny_pure (wpAny_pure ⟨_, rfl, wpAny_pure h⟩)) htake))
  | exact wpAny_bind (wpAny_bind (m := Builtin.Tuple.tupleExact _) (wpAny_newObj_type (wpAny_pure ⟨_, rfl, wpAny_pure h⟩) htake))
end
end HT
namespace L2
open PySem PySem.Spec PyProof.Rows
abbrev TO := St -> Hp -> (Option Int -> Hp -> Prop) -> Prop
def PO (X : Cx) (e : Option Expr) (t : TO) : Prop :=
 ∀ (pins : List (Addr × Obj)) (s : Shared) (σ : St) (H : Hp) (Q : Option Int -> Hp -> Prop), Inv X pins σ H s -> t σ H Q ->
  wpAny (model X.prog X.w) X.A (evalPart e X.env) (fun u s' => ∃ o H', Inv X pins σ H' s' /\ IsPart u o /\ Q o H') X.xe s
def kW : TO := fun _ H Q => Q none H
def xz (t : TE) : TO := fun σ H Q => t σ H fun x H1 => ∃ i, x = .int i /\ Q (some i) H1
section
variable {X : Cx} {e : Expr} {te : TE} {lo hi : Option Expr} {tl th : TO} {pos p2 : Pos}
theorem bI : PO X none kW := by
 intro pins s σ H Q I h
 rw [evalPart_none]
 exact wpAny_pure ⟨none, H, I, .none, h⟩
theorem bw (h : PE X e te) : PO X (some e) (xz te) := by
 intro pins s σ H Q I hw
 rw [evalPart_some]
 refine thn (h pins s σ H _ I hw) fun u s1 ⟨x, H1, I1, r1, q1⟩ => ?_
 obtain ⟨i, rfl, q⟩ := q1
 obtain ⟨t, rfl⟩ := r1
 exact ⟨some i, H1, I1, .int i t, q⟩
def SlR (X : Cx) (r : V -> Option Int -> Option Int -> Hp -> VK -> Prop) : Prop :=
 ∀ (pins : List (Addr × Obj)) (s : Shared) (σ : St) (H : Hp) (x : V) (v vl vu : Value) (lo hi : Option Int) (sl : Addr) (Q : VK), Inv X pins σ H s -> aQ x v -> s.heap.IsSliceOf sl vl vu .none -> IsPart vl lo -> IsPart vu hi -> r x lo hi H Q ->
  ∃ T id, typeLookup (.type T) "__getitem__" = pure (some (.builtin id)) /\ s.TypeIs v T /\ wpAny (model X.prog X.w) X.A (getItem v (.ref sl)) (EP X pins σ Q) X.xe s
def tSl (r : V -> Option Int -> Option Int -> Hp -> VK -> Prop) (te : TE) (tl th : TO) : TE := fun σ H Q => te σ H fun x H1 => tl σ H1 fun l H2 => th σ H2 fun u H3 => r x l u H3 Q
theorem bq {r : V -> Option Int -> Option Int -> Hp -> VK -> Prop} (hr : SlR X r) (he : PE X e te) (hl : PO X lo tl) (hu : PO X hi th) : PE X (.Subscript e (.Slice lo hi none p2) pos) (tSl r te tl th) := by
 intro pins s σ H Q I h
 refine Subscript_ (thn (he pins s σ H _ I h) fun v s1 ⟨x, H1, I1, r1, q1⟩ => ?_)
 refine wpAny_Slice (thn (hl pins s1 σ H1 _ I1 q1) fun vl s2 ⟨l, H2, I2, pl, q2⟩ => thn (hu pins s2 σ H2 _ I2 q2) fun vu s3 ⟨u, H3, I3, pu, q3⟩ => ?_)
 rw [evalPart_none]
 refine wpAny_pure ?_
 have I4 : Inv X pins σ H3 { s3 with heap := s3.heap.push { cls := .type "slice", data := .fields #[vl, vu, .none] } } := I3.kept (t' := s3.toks) fun b ob q => Heap.get?_push_of_some _ q
 obtain ⟨T, id, hT, ht, hg⟩ := hr pins { s3 with heap := s3.heap.push { cls := .type "slice", data := .fields #[vl, vu, .none] } } σ H3 x v vl vu l u s3.heap.objs.size Q I4 r1 (Heap.IsSliceOf.new ..) pl pu q3
 show wpAny (model X.prog X.w) X.A (subscriptTail e (.Slice lo hi none p2) v (.ref s3.heap.objs.size)) (EP X pins σ Q) X.xe { s3 with heap := s3.heap.push { cls := .type "slice", data := .fields #[vl, vu, .none] } }
 exact tail_any (ops := [.ref s3.heap.objs.size, v]) ht hT hg (by with_unfolding_all rfl)
def bc (xs : List V) (lo hi : Option Int) : List V := (xs.drop (HT.sIx xs.length 0 lo)).take (HT.sIx xs.length xs.length hi - HT.sIx xs.length 0 lo)
theorem eL (xs : List V) (lo hi : Option Int) : (bc xs lo hi).length <= xs.length := by
 unfold bc
 rw [List.length_take, List.length_drop]
 omega
def xX (K : PySem.W.Frag) : V -> Option Int -> Option Int -> Hp -> VK -> Prop := fun x lo hi H Q => ∃ a xs, x = .ref a /\ SqT K H a xs /\
 ¬ (HT.sIx xs.length 0 lo = 0 /\ HT.sIx xs.length xs.length hi = xs.length) /\ ∀ p, H p = none -> Q (.ref p) (upd H p (.tup (bc xs lo hi)))
theorem wj : SlR X (xX X.K) := by
 intro pins s σ H x v vl vu lo hi sl Q I rx hs pl pu h
 obtain ⟨a, xs, rfl, hx, hw, q⟩ := h
 cases rx
 obtain ⟨its, r, ht, hz⟩ := I.tuple hx
 have hlen : its.toArray.size = xs.length := by rw [List.size_toArray]; exact r.length.symm
 refine ⟨"tuple", _, PyProof.Rows.slot_tuple_getitem.lookup, ht.typeIs, ?_⟩
 refine HT.getItem_tuple_cut ht hs pl pu (by rw [hlen]; exact hw) ?_ (by rw [hlen]; exact hz)
 rw [hlen]
 refine ⟨.ref s.heap.objs.size, _, I.laid (t' := s.toks) (o := .tup (bc xs lo hi)) (fun b ob q => Heap.get?_push_of_some _ q) (Nat.le_refl _) ?_, rfl, q _ (I.hok.fresh (Nat.le_refl _))⟩
 exact ⟨Nat.le_trans (eL xs lo hi) hz, _, (r.drop (HT.sIx xs.length 0 lo)).take (HT.sIx xs.length xs.length hi - HT.sIx xs.length 0 lo), IsTup.new _ _, NoD.new _ rfl⟩
end
def ixN (n : Nat) (i : Int) : Option Nat := if 0 <= i then (if i < n then some i.toNat else none) else if -(n : Int) <= i then some (i + n).toNat else none
def atI {α : Type} (xs : List α) (i : Int) : Option α := (ixN xs.length i).bind fun j => xs[j]?
theorem pz {n : Nat} {i : Int} {j : Nat} (h : ixN n i = some j) : seqIndex? i n = some j /\ j < n /\ -(n : Int) <= i /\ i < n := by
 unfold ixN at h
 by_cases h0 : 0 <= i
 ·rw [if_pos h0] at h
  by_cases h1 : i < n
  ·rw [if_pos h1] at h
   have e : i.toNat = j := Option.some.inj h
   exact ⟨by rw [seqIndex_of h0 h1, e], by omega, by omega, h1⟩
  ·rw [if_neg h1] at h; cases h
 ·rw [if_neg h0] at h
  by_cases h1 : -(n : Int) <= i
  ·rw [if_pos h1] at h
   have e : (i + n).toNat = j := Option.some.inj h
   exact ⟨by rw [seqIndex_neg (by omega) h1, e], by omega, h1, by omega⟩
  ·rw [if_neg h1] at h; cases h
theorem kG {α : Type} {xs : List α} {i : Int} {v : α} (h : atI xs i = some v) : ∃ j, seqIndex? i xs.length = some j /\ xs[j]? = some v /\ j < xs.length /\ -(xs.length : Int) <= i /\ i < xs.length := by
 unfold atI at h
 cases e : ixN xs.length i with
 | none => rw [e] at h; cases h
 | some j =>
  rw [e] at h
  obtain ⟨h1, h2, h3, h4⟩ := pz e
  exact ⟨j, h1, h, h2, h3, h4⟩
theorem ak {α : Type} {xs : List α} {j : Nat} {v : α} (h : xs[j]? = some v) : atI xs (j : Int) = some v := by
 have hj : j < xs.length := (List.getElem?_eq_some_iff.mp h).1
 have e : ixN xs.length (j : Int) = some j := by
  unfold ixN
  rw [if_pos (by omega), if_pos (by omega)]; simp
 unfold atI; rw [e]; exact h
theorem gh {α : Type} (xs : List α) (v : α) : atI (xs ++ [v]) (-1) = some v := by
 have hl : (xs ++ [v]).length = xs.length + 1 := by simp
 have e : ixN (xs ++ [v]).length (-1) = some xs.length := by
  unfold ixN
  rw [hl, if_neg (by decide), if_pos (by omega)]
  congr 1
  omega
 unfold atI
 rw [e]
 show (xs ++ [v])[xs.length]? = some v
 simp
def uI (b : Expr) : Prop := ∀ o i, subscripted b false o i = operate [o, i] (getItem o i)
def IxR (X : Cx) (r : R2) : Prop :=
 ∀ (value slice : Expr) (pins : List (Addr × Obj)) (s : Shared) (σ : St) (H : Hp) (x y : V) (v u : Value) (Q : VK), Inv X pins σ H s -> aQ x v -> aQ y u -> r x y H Q ->
  subscripted slice false v u = operate [v, u] (getItem v u) -> wpAny (model X.prog X.w) X.A (subscriptTail value slice v u) (EP X pins σ Q) X.xe s
def MtR (X : Cx) (id : String) (r : V -> List V -> Hp -> VK -> Prop) : Prop :=
 ∀ (pins : List (Addr × Obj)) (s : Shared) (σ : St) (H : Hp) (x : V) (xs : List V) (v : Value) (us : List Value) (Q : VK), Inv X pins σ H s -> aQ x v -> aL xs us -> r x xs H Q ->
  wpAny (model X.prog X.w) X.A (call (.builtin id) (v :: us)) (EP X pins σ Q) X.xe s
section
variable {X : Cx} {a b : Expr} {ta tb : TE} {pos : Pos}
theorem ay {r : R2} (hr : IxR X r) (ha : PE X a ta) (hb : PE X b tb) (hs : uI b) : PE X (.Subscript a b pos) (tOp r ta tb) := by
 intro pins s σ H Q I h
 exact Subscript_ (we ha hb I h fun v u s2 x y H2 I2 rx ry q => hr a b pins s2 σ H2 x y v u Q I2 rx ry q (hs _ _))
def tM (K : PySem.W.Frag) : R2 := fun x y H Q => ∃ p xs i v, x = .ref p /\ y = .int i /\ SqL K H p xs /\ atI xs i = some v /\ Q v H
def sy (K : PySem.W.Frag) : R2 := fun x y H Q => ∃ p xs i v, x = .ref p /\ y = .int i /\ SqT K H p xs /\ atI xs i = some v /\ Q v H
def xU : R2 := fun x y H Q => ∃ z i c, x = .str z /\ y = .int i /\ z.length <= sizeLine /\ atI z.cps.toList i = some c /\ Q (.str ⟨#[c]⟩) H
theorem br : IxR X (tM X.K) := by
 intro value slice pins s σ H x y v u Q I rx ry h hs
 obtain ⟨p, xs, i, z, rfl, rfl, hq, he, q⟩ := h
 cases rx
 obtain ⟨t, rfl⟩ := ry
 obtain ⟨its, r, pl, hz⟩ := I.list hq
 obtain ⟨j, h1, h2, h3, h4, h5⟩ := kG he
 obtain ⟨w, ew, rw'⟩ := r.get h2
 have hl := r.length
 have hn := fH
 have fin : EP X pins σ Q w s := ⟨z, H, I, rw', q⟩
 by_cases h0 : 0 <= i
 ·have hj : i.toNat = j := by
   rw [seqIndex_of h0 h5] at h1
   exact Option.some.inj h1
  exact item_listR pl.isList h0 (by omega) (by rw [hj]; simpa using ew) fin hs
 ·have hj : (i + (its.toArray.size : Int)).toNat = j := by
   rw [seqIndex_neg (by omega) h4] at h1
   rw [List.size_toArray, <- hl]
   exact Option.some.inj h1
  exact subscriptTail_builtinR (x := w) pl.isList.typeIs slot_list_getitem.lookup
   (wpAny_getItem_list_neg (Q := fun r s' => r = w /\ EP X pins σ Q r s') pl.isList (by omega) (by rw [List.size_toArray] <;> omega) (by omega) (by rw [hj]; simpa using ew) ⟨rfl, fin⟩) hs
theorem aB : IxR X (sy X.K) := by
 intro value slice pins s σ H x y v u Q I rx ry h hs
 obtain ⟨p, xs, i, z, rfl, rfl, hq, he, q⟩ := h
 cases rx
 obtain ⟨t, rfl⟩ := ry
 obtain ⟨its, r, pl, hz⟩ := I.tuple hq
 obtain ⟨j, h1, h2, h3, h4, h5⟩ := kG he
 obtain ⟨w, ew, rw'⟩ := r.get h2
 have hl := r.length
 have hn := fH
 have fin : EP X pins σ Q w s := ⟨z, H, I, rw', q⟩
 exact subscriptTail_builtinR (x := w) pl.typeIs slot_tuple_getitem.lookup
  (getItem_tuple (j := j) (Q := fun r s' => r = w /\ EP X pins σ Q r s') pl (by omega) (by omega) (by rw [List.size_toArray, <- hl]; exact h1) (by simpa using ew) ⟨rfl, fin⟩) hs
theorem mY : IxR X xU := by
 intro value slice pins s σ H x y v u Q I rx ry h hs
 obtain ⟨z, i, c, rfl, rfl, hz, he, q⟩ := h
 obtain ⟨t, rfl⟩ := rx
 obtain ⟨t', rfl⟩ := ry
 obtain ⟨j, h1, h2, h3, h4, h5⟩ := kG he
 have hl : z.cps.toList.length = z.length := by simp [Str.length]
 rw [hl] at h1 h4 h5
 have hn := fH
 exact tail_any (typeIs_str s z t) slot_str_getitem.lookup (getItem_str (c := c) (by
  have e1 : decide (i < -(2 ^ 63 : Int)) = false := decide_eq_false (by omega)
  have e2 : decide (i >= 2 ^ 63) = false := decide_eq_false (by omega)
  rw [e1, e2, Bool.or_false]) (by rw [h1]; simpa using h2) ⟨.str ⟨#[c]⟩, H, I.tok _, ⟨_, rfl⟩, q⟩) hs
theorem nI (its : List Value) (n j : Nat) (u : Value) : Obj.mapSeq (·.setIfInBounds j u) { cls := .type "list", data := .seq its.toArray n } = { cls := .type "list", data := .seq (its.set j u).toArray n } := by
 simp [Obj.mapSeq]
theorem Inv.lst {pins : List (Addr × Obj)} {σ : St} {H : Hp} {s : Shared} {p : Addr} {xs : List V} (I : Inv X pins σ H s) (h : H p = some (.lst xs)) :
  ∃ (its : List Value) (n : Nat), aL xs its /\ s.heap.get? p = some { cls := .type "list", data := .seq its.toArray n } /\ xs.length <= sizeLine := by
 obtain ⟨z, its, n, r, e⟩ := I.hok p _ h
 exact ⟨its, n, r, e, z⟩
theorem Inv.lstUpd {pins : List (Addr × Obj)} {σ : St} {H : Hp} {s : Shared} {p : Addr} {xs ys : List V} {its its' : List Value} {n n' : Nat} {f : Obj -> Obj} (I : Inv X pins σ H s) (h : H p = some (.lst xs))
  (ho : s.heap.get? p = some { cls := .type "list", data := .seq its.toArray n }) (hf : f { cls := .type "list", data := .seq its.toArray n } = { cls := .type "list", data := .seq its'.toArray n' }) (r : aL ys its') (hz : ys.length <= sizeLine) (t : Nat) :
  Inv X pins σ (upd H p (.lst ys)) { s with heap := s.heap.update p f, toks := t } := by
 have e : (s.heap.update p f).get? p = some { cls := .type "list", data := .seq its'.toArray n' } := by
  rw [Heap.get?_update_self f ho (by rw [hf] <;> rfl), hf]
 refine I.write (x := p) (e := p) (by rw [h]; trivial) (.inl rfl) (fun b u hb q => (Heap.get?_update_other _ _ (Ne.symm hb)).trans q) ⟨_, e⟩ ?_
 exact ⟨hz, its', n', r, e⟩
def xF : V -> V -> V -> Hp -> (Hp -> Prop) -> Prop := fun o i v H Q => ∃ p xs k j, o = .ref p /\ i = .int k /\ H p = some (.lst xs) /\ ixN xs.length k = some j /\ Q (upd H p (.lst (xs.set j v)))
theorem sY : xP X xF := by
 intro pins s σ H o i v ov iv u Q I ro ri rv h
 obtain ⟨p, xs, k, j, rfl, rfl, hp, hj, q⟩ := h
 cases ro
 obtain ⟨t, rfl⟩ := ri
 obtain ⟨its, n, r, ho, hz⟩ := I.lst hp
 obtain ⟨h1, h2, h3, h4⟩ := pz hj
 have hl := r.length
 have hn := fH
 have I' : Inv X pins σ (upd H p (.lst (xs.set j v))) { s with heap := s.heap.update p (Obj.mapSeq (·.setIfInBounds j u)) } :=
  I.lstUpd hp ho (nI its n j u) (r.set rv j) (by rw [List.length_set]; exact hz) s.toks
 by_cases h0 : 0 <= k
 ·have hk : k.toNat = j := by
   rw [seqIndex_of h0 h4] at h1
   exact Option.some.inj h1
  exact PySem.W.ki_setAt ho h0 (by omega) (by rw [List.size_toArray, <- hl]; exact h4) (by rw [hk]; exact ⟨_, I', q⟩)
 ·have hk : (k + (its.toArray.size : Int)).toNat = j := by
   rw [seqIndex_neg (by omega) h3] at h1
   rw [List.size_toArray, <- hl]
   exact Option.some.inj h1
  exact PySem.W.ki_setBack ho (by omega) (by rw [List.size_toArray, <- hl]; exact h3) (by omega) (by rw [hk]; exact ⟨_, I', q⟩)
theorem kJ (lo hi : Option Int) (n : Nat) : (sliceBounds lo hi none n).1 = ((HT.sIx n 0 lo : Nat) : Int) /\ (sliceBounds lo hi none n).2.1 = ((HT.sIx n n hi : Nat) : Int) /\ (sliceBounds lo hi none n).2.2 = 1 := by
 refine ⟨?_, ?_, rfl⟩
 ·cases lo with
  | none => simp [sliceBounds, HT.sIx]
  | some i =>
   simp only [sliceBounds, HT.sIx, Option.getD_none, show (1 : Int) > 0 by decide, if_true]
   by_cases h : i < 0
   ·simp only [h, if_true] <;> omega
   ·simp only [h, if_false] <;> omega
 ·cases hi with
  | none => simp [sliceBounds, HT.sIx]
  | some i =>
   simp only [sliceBounds, HT.sIx, Option.getD_none, show (1 : Int) > 0 by decide, if_true]
   by_cases h : i < 0
   ·simp only [h, if_true] <;> omega
   ·simp only [h, if_false] <;> omega
theorem jk (its : List Value) (lo hi : Option Int) : slicePick its.toArray lo hi none = ((its.drop (HT.sIx its.length 0 lo)).take (HT.sIx its.length its.length hi - HT.sIx its.length 0 lo)).toArray := by
 obtain ⟨h1, h2, h3⟩ := kJ lo hi its.toArray.size
 unfold slicePick
 rw [h1, h2, h3]
 simp only [sliceRange_one, pick_run, List.size_toArray] <;> rfl
def yx (K : PySem.W.Frag) : V -> Option Int -> Option Int -> Hp -> VK -> Prop := fun x lo hi H Q => ∃ a xs, x = .ref a /\ SqL K H a xs /\ ∀ p, H p = none -> Q (.ref p) (upd H p (.lst (bc xs lo hi)))
theorem ce : SlR X (yx X.K) := by
 intro pins s σ H x v vl vu lo hi sl Q I rx hs pl pu h
 obtain ⟨a, xs, rfl, hx, q⟩ := h
 cases rx
 obtain ⟨its, r, ht, hz⟩ := I.list hx
 have hlen := r.length
 refine ⟨"list", _, slot_list_getitem.lookup, ht.isList.typeIs, ?_⟩
 refine wpAny_getItem_list_slice ht.isList hs pl pu .none (by simp) ?_ (by rw [List.size_toArray] <;> omega)
 rw [jk, <- hlen]
 refine ⟨.ref s.heap.objs.size, _, I.laid (t' := s.toks) (o := .lst (bc xs lo hi)) (fun b ob q => Heap.get?_push_of_some _ q) (Nat.le_refl _) ?_, rfl, q _ (I.hok.fresh (Nat.le_refl _))⟩
 exact ⟨Nat.le_trans (eL xs lo hi) hz, _, 0, (r.drop (HT.sIx xs.length 0 lo)).take (HT.sIx xs.length xs.length hi - HT.sIx xs.length 0 lo), Heap.get?_push_size _ rfl⟩
def gM : V -> Bool
 | .non => true
 | .bl _ => true
 | .int _ => true
 | .str _ => true
 | _ => false
def eqV : V -> V -> Bool
 | .non, .non => true
 | .bl a, .bl b => a == b
 | .bl a, .int b => (if a then 1 else 0) == b
 | .int a, .bl b => a == (if b then 1 else 0)
 | .int a, .int b => a == b
 | .str a, .str b => a == b
 | _, _ => false
theorem wl {A : Around} {s : Shared} {y x : V} {u v : Value} (ry : aQ y u) (rx : aQ x v) (fy : gM y = true) (fx : gM x = true) : SeqAt.EqAt A s u v (eqV y x) := by
 cases y with
 | non =>
  cases ry
  cases x with
  | non => cases rx; exact SeqAt.EqAt.same _
  | bl b => cases rx; exact SeqAt.EqAt.none_bool b
  | int b => obtain ⟨t, rfl⟩ := rx; exact SeqAt.EqAt.none_int b t
  | str b => obtain ⟨t, rfl⟩ := rx; exact SeqAt.EqAt.none_str b t
  | _ => exact absurd (show false = true from fx) Bool.false_ne_true
 | bl a =>
  cases ry
  cases x with
  | non => cases rx; exact SeqAt.EqAt.bool_none a
  | bl b => cases rx; exact SeqAt.EqAt.bool_bool a b
  | int b => obtain ⟨t, rfl⟩ := rx; exact SeqAt.EqAt.bool_int a b t
  | str b => obtain ⟨t, rfl⟩ := rx; exact SeqAt.EqAt.bool_str a b t
  | _ => exact absurd (show false = true from fx) Bool.false_ne_true
 | int a =>
  obtain ⟨t', rfl⟩ := ry
  cases x with
  | non => cases rx; exact SeqAt.EqAt.int_none a t'
  | bl b => cases rx; exact SeqAt.EqAt.int_bool a t' b
  | int b => obtain ⟨t, rfl⟩ := rx; exact SeqAt.EqAt.int_int a t' b t
  | str b => obtain ⟨t, rfl⟩ := rx; exact SeqAt.EqAt.int_str a t' b t
  | _ => exact absurd (show false = true from fx) Bool.false_ne_true
 | str a =>
  obtain ⟨t', rfl⟩ := ry
  cases x with
  | non => cases rx; exact SeqAt.EqAt.str_none a t'
  | bl b => cases rx; exact SeqAt.EqAt.str_bool a t' b
  | int b => obtain ⟨t, rfl⟩ := rx; exact SeqAt.EqAt.str_int a t' b t
  | str b => obtain ⟨t, rfl⟩ := rx; exact SeqAt.EqAt.str_str a t' b t
  | _ => exact absurd (show false = true from fx) Bool.false_ne_true
 | _ => exact absurd (show false = true from fy) Bool.false_ne_true
def eqU (x : V) (u : Value) : Bool := match u with
 | .none => eqV .non x
 | .bool b => eqV (.bl b) x
 | .int i _ => eqV (.int i) x
 | .str z _ => eqV (.str z) x
 | _ => false
theorem rb {x y : V} {u : Value} (r : aQ y u) (f : gM y = true) : eqU x u = eqV y x := by
 cases y with
 | non => cases r; rfl
 | bl b => cases r; rfl
 | int i => obtain ⟨t, rfl⟩ := r; rfl
 | str z => obtain ⟨t, rfl⟩ := r; rfl
 | _ => exact absurd (show false = true from f) Bool.false_ne_true
theorem fZ {x : V} : ∀ {xs : List V} {us : List Value}, aL xs us -> xs.all gM = true -> us.any (eqU x) = xs.any fun y => eqV y x
 | _, _, .nil, _ => rfl
 | y :: xs, u :: us, .cons r t, f => by
  rw [List.all_cons, Bool.and_eq_true] at f
  rw [List.any_cons, List.any_cons, rb r f.1, fZ t f.2]
theorem eV {A : Around} {s : Shared} {x : V} {v : Value} (rx : aQ x v) (fx : gM x = true) : ∀ {xs : List V} {us : List Value}, aL xs us -> xs.all gM = true -> ∀ u ∈ us, SeqAt.EqAt A s u v (eqU x u)
 | _, _, .nil, _ => fun u hu => by cases hu
 | y :: xs, u :: us, .cons r t, f => fun u' hu => by
  rw [List.all_cons, Bool.and_eq_true] at f
  rcases List.mem_cons.mp hu with rfl | hu
  ·rw [rb r f.1]; exact wl r rx f.1 fx
  ·exact eV rx fx t f.2 u' hu
def inV (x : V) (xs : List V) : Bool := xs.any fun y => eqV y x
def rIn (K : PySem.W.Frag) (neg : Bool) : R2 := fun x y H Q => ∃ p xs, y = .ref p /\ (SqL K H p xs \/ SqT K H p xs) /\ gM x = true /\ xs.all gM = true /\ Q (.bl (if neg then !inV x xs else inV x xs)) H
theorem pS : OpR X (compareOp .In) (rIn X.K false) := by
 intro pins s σ H x y v u Q I rx ry h
 obtain ⟨p, xs, rfl, hq, fx, fs, q⟩ := h
 cases ry
 rcases hq with hq | hq
 ·obtain ⟨its, r, pl, hz⟩ := I.list hq
  refine SeqAt.in_listAt (eqU x) pl.isList (fun w hw => eV rx fx r fs w (by simpa using hw)) ⟨.bl _, H, I, rfl, ?_⟩
  rw [show its.toArray.any (eqU x) = its.any (eqU x) by simp, fZ r fs]
  exact q
 ·obtain ⟨its, r, pl, hz⟩ := I.tuple hq
  refine SeqAt.in_tupleAt (eqU x) pl (fun w hw => eV rx fx r fs w (by simpa using hw)) ⟨.bl _, H, I, rfl, ?_⟩
  rw [show its.toArray.any (eqU x) = its.any (eqU x) by simp, fZ r fs]
  exact q
theorem ky : OpR X (compareOp .NotIn) (rIn X.K true) := by
 intro pins s σ H x y v u Q I rx ry h
 obtain ⟨p, xs, rfl, hq, fx, fs, q⟩ := h
 cases ry
 rcases hq with hq | hq
 ·obtain ⟨its, r, pl, hz⟩ := I.list hq
  refine SeqAt.notIn_listAt (eqU x) pl.isList (fun w hw => eV rx fx r fs w (by simpa using hw)) ⟨.bl _, H, I, rfl, ?_⟩
  rw [show its.toArray.any (eqU x) = its.any (eqU x) by simp, fZ r fs]
  exact q
 ·obtain ⟨its, r, pl, hz⟩ := I.tuple hq
  refine SeqAt.notIn_tupleAt (eqU x) pl (fun w hw => eV rx fx r fs w (by simpa using hw)) ⟨.bl _, H, I, rfl, ?_⟩
  rw [show its.toArray.any (eqU x) = its.any (eqU x) by simp, fZ r fs]
  exact q
theorem aI : dP X (.builtin "len") (fun xs H Q => ∃ p ys, xs = [.ref p] /\ (SqL X.K H p ys \/ SqT X.K H p ys) /\ Q (.int ys.length) H) := by
 intro pins s σ H xs us Q I r h
 obtain ⟨p, ys, rfl, hq, q⟩ := h
 obtain ⟨u, rfl, rx⟩ := fm r
 cases rx
 have hn := fH
 rcases hq with hq | hq
 ·obtain ⟨its, r', pl, hz⟩ := I.list hq
  have hlen := r'.length
  exact Calls.call_len_list pl.isList (by simp only [List.size_toArray] <;> omega) ⟨.int ys.length, H, I.tok _, ⟨s.toks + 1, by rw [List.size_toArray, hlen]⟩, q⟩
 ·obtain ⟨its, r', pl, hz⟩ := I.tuple hq
  have hlen := r'.length
  exact len_tuple pl (by simp only [List.size_toArray] <;> omega) ⟨.int ys.length, H, I.tok _, ⟨s.toks + 1, by rw [List.size_toArray, hlen]⟩, q⟩
theorem fM : dP X (.builtin "len") (fun xs H Q => ∃ z, xs = [.str z] /\ z.length <= sizeLine /\ Q (.int z.length) H) := by
 intro pins s σ H xs us Q I r h
 obtain ⟨z, rfl, hz, q⟩ := h
 obtain ⟨u, rfl, t, rfl⟩ := fm r
 have hn := fH
 exact len_str (by omega) ⟨.int z.length, H, I.tok _, ⟨_, rfl⟩, q⟩
theorem gb : dP X (.type "list") (fun xs H Q => ∃ p ys, xs = [.ref p] /\ (SqL X.K H p ys \/ SqT X.K H p ys) /\ ∀ l, H l = none -> Q (.ref l) (upd H l (.lst ys))) := by
 intro pins s σ H xs us Q I r h
 obtain ⟨p, ys, rfl, hq, q⟩ := h
 obtain ⟨u, rfl, rx⟩ := fm r
 cases rx
 have fin : ∀ (its : List Value), aL ys its -> ys.length <= sizeLine -> ∀ (h' : Heap) (c' : Nat), (∀ b o', s.heap.get? b = some o' -> h'.get? b = some o') ->
   h'.get? s.heap.objs.size = some { cls := .type "list", dict := none, data := .seq its.toArray c', slots := #[] } -> EP X pins σ Q (.ref s.heap.objs.size) { s with heap := h' } := fun its r' hz h' c' kp e =>
  ⟨.ref s.heap.objs.size, _, I.laid (t' := s.toks) kp (Nat.le_refl _) (show bo X.prog X.w _ h' _ (.lst ys) from ⟨hz, its, c', r', e⟩), rfl, q _ (I.hok.fresh (Nat.le_refl _))⟩
 rcases hq with hq | hq
 ·obtain ⟨its, r', pl, hz⟩ := I.list hq
  have hlen := r'.length
  obtain ⟨o, ho, hc, n, hd⟩ := pl.isList
  exact call_list_seq p (.inl rfl) ho hc hd (fun h' c' kp e => fin its r' hz h' c' kp e) (by simp only [List.size_toArray] <;> omega)
 ·obtain ⟨its, r', pl, hz⟩ := I.tuple hq
  have hlen := r'.length
  obtain ⟨o, ho, hc, n, hd⟩ := pl
  exact call_list_seq p (.inr rfl) ho hc hd (fun h' c' kp e => fin its r' hz h' c' kp e) (by simp only [List.size_toArray] <;> omega)
theorem dS : dP X (.type "tuple") (fun xs H Q => ∃ p ys, xs = [.ref p] /\ ((SqL X.K H p ys /\ ∀ l, H l = none -> Q (.ref l) (upd H l (.tup ys))) \/ (SqT X.K H p ys /\ Q (.ref p) H))) := by
 intro pins s σ H xs us Q I r h
 obtain ⟨p, ys, rfl, h⟩ := h
 obtain ⟨u, rfl, rx⟩ := fm r
 cases rx
 rcases h with ⟨hq, q⟩ | ⟨hq, q⟩
 ·obtain ⟨its, r', pl, hz⟩ := I.list hq
  have hlen := r'.length
  refine call_tuple_list pl.isList (fun h' kp => ?_) (by simp only [List.size_toArray] <;> omega)
  have I1 : Inv X pins σ H { s with heap := h' } := I.kept (t' := s.toks) kp
  have I2 : Inv X pins σ (upd H h'.objs.size (.tup ys)) { s with heap := h'.push { cls := .type "tuple", data := .seq its.toArray } } :=
   I1.laid (t' := s.toks) (fun b o e => Heap.get?_push_of_some _ e) (Nat.le_refl _) (show bo X.prog X.w _ _ _ (.tup ys) from ⟨hz, its, r', IsTup.new _ _, NoD.new _ rfl⟩)
  exact ⟨.ref h'.objs.size, _, I2, rfl, q _ (I1.hok.fresh (Nat.le_refl _))⟩
 ·obtain ⟨its, r', pl, hz⟩ := I.tuple hq
  exact call_tuple_same pl ⟨.ref p, H, I, rfl, q⟩
def tyV (K : PySem.W.Frag) (T : String) (x : V) (H : Hp) : Prop := match x with
 | .str _ => T = "str"
 | .int _ => T = "int"
 | .ref p => (T = "list" /\ ∃ xs, SqL K H p xs) \/ (T = "tuple" /\ ∃ o, K.lookup p = some o /\ o.cls = .type "tuple" /\ o.dict = none) \/
   (T = "dict" /\ ((∃ kvs, H p = some (.dK kvs)) \/ ∃ kvs, H p = some (.dT kvs))) \/ (T = "set" /\ ∃ S n, H p = some (.set S n))
 | _ => False
theorem rX {pins : List (Addr × Obj)} {σ : St} {H : Hp} {s : Shared} {T : String} {x : V} {v : Value} (I : Inv X pins σ H s) (r : aQ x v) (ty : tyV X.K T x H) :
  s.TypeIs v T /\ ∀ a, v = .ref a -> ∃ ob, s.heap.get? a = some ob /\ ob.dict = none := by
 cases x with
 | str z =>
  obtain ⟨t, rfl⟩ := r
  cases (show T = "str" from ty)
  exact ⟨typeIs_str s z t, fun _ e => nomatch e⟩
 | int i =>
  obtain ⟨t, rfl⟩ := r
  cases (show T = "int" from ty)
  exact ⟨typeIs_int s i t, fun _ e => nomatch e⟩
 | ref p =>
  cases r
  rcases ty with ⟨rfl, xs, hq⟩ | ⟨rfl, o, hk, hc, hd⟩ | ⟨rfl, hk⟩ | ⟨rfl, S, n, hk⟩
  ·obtain ⟨its, _, pl, _⟩ := I.list hq
   refine ⟨pl.isList.typeIs, fun a e => ?_⟩
   cases e
   obtain ⟨o, n, e, c, hd, _⟩ := pl
   exact ⟨o, e, hd⟩
  ·refine ⟨⟨o, I.kIn p o hk, hc⟩, fun a e => ?_⟩
   cases e
   exact ⟨o, I.kIn _ o hk, hd⟩
  ·have z : ∃ o, s.heap.get? p = some o /\ o.ExactDict := by
    rcases hk with ⟨kvs, hk⟩ | ⟨kvs, hk⟩
    ·obtain ⟨_, _, _, _, o, _, _, e, ex, _⟩ := I.hok p _ hk
     exact ⟨o, e, ex⟩
    ·obtain ⟨_, _, _, _, o, _, _, e, ex, _⟩ := I.hok p _ hk
     exact ⟨o, e, ex⟩
   obtain ⟨o, e, ex⟩ := z
   refine ⟨⟨o, e, ex.1⟩, fun a e2 => ?_⟩
   cases e2
   exact ⟨o, e, ex.2.1⟩
  ·obtain ⟨o, _, _, _, e, ex, _⟩ := I.hok p _ hk
   refine ⟨⟨o, e, ex.1⟩, fun a e2 => ?_⟩
   cases e2
   exact ⟨o, e, ex.2.1⟩
 | _ => exact False.elim ty
def yk (K : PySem.W.Frag) (T : String) (r : V -> List V -> Hp -> VK -> Prop) (to : TE) : TE := fun σ H Q => to σ H fun x H1 => tyV K T x H1 /\ r x [] H1 Q
def tBM (K : PySem.W.Frag) (T : String) (r : V -> List V -> Hp -> VK -> Prop) (to : TE) (t : TA) : TE := fun σ H Q => to σ H fun x H1 => tyV K T x H1 /\ t σ H1 fun xs H2 => r x xs H2 Q
variable {o e : Expr} {es : List Expr} {to : TE} {t : TA} {name : Str} {apos cpos : Pos} {T id : String} {r : V -> List V -> Hp -> VK -> Prop}
theorem eP (pa : PlainAttrs T) (slot : Slot T name id) (hty : typeOf (.builtin id) = pure (.type "method_descriptor")) (hm : MtR X id r) (ho : PE X o to)
  (hbase : attributeBase o name X.env (eval o X.env) = eval o X.env := by rfl) (hline : (apos.endLine == cpos.line) = true := by rfl) : PE X (.Call (.Attribute o name apos) [] [] cpos) (yk X.K T r to) := by
 intro pins s σ H Q I h
 refine wpAny_Call_method0_late hbase hline (thn (ho pins s σ H _ I h) fun v s1 ⟨x, H1, I1, r1, ty, q1⟩ => ?_)
 obtain ⟨h1, h2⟩ := rX I1 r1 ty
 exact ⟨T, id, pa, slot, hty, h1, h2, Calls.callWith_builtin rfl (PySem.evalArgs_none (hm pins s1 σ H1 x [] v [] Q I1 r1 .nil q1))⟩
theorem dX (pa : PlainAttrs T) (slot : Slot T name id) (hty : typeOf (.builtin id) = pure (.type "method_descriptor")) (hm : MtR X id r) (ho : PE X o to) (ha : PA X (e :: es) t)
  (hbase : attributeBase o name X.env (eval o X.env) = eval o X.env := by rfl)
  (hfew : ((backTo cpos (starEach (e :: es) X.env)).all (fun x => !x.1) && (backToKw cpos (keywordEach [] X.env)).all (fun x => x.1.isSome)
   && decide ((e :: es).length + ([] : List Keyword).length + (if ([] : List Keyword).isEmpty then 0 else 1) < 30)) = true := by rfl)
  (hline : (apos.endLine == cpos.line) = true := by rfl) (hs : starEach (e :: es) X.env = (false, eval e X.env) :: starEach es X.env := by rfl) (hplain : (backTo cpos (starEach es X.env)).any (·.1) = false := by rfl) :
  PE X (.Call (.Attribute o name apos) (e :: es) [] cpos) (tBM X.K T r to t) := by
 intro pins s σ H Q I h
 refine wpAny_Call_method_late hbase hfew hline rfl (thn (ho pins s σ H _ I h) fun v s1 ⟨x, H1, I1, r1, ty, q1⟩ => ?_)
 obtain ⟨h1, h2⟩ := rX I1 r1 ty
 refine ⟨T, id, pa, slot, hty, h1, h2, ?_⟩
 have hA := ha cpos pins s1 σ H1 _ I1 q1
 rw [hs] at hA ⊢
 refine Calls.callWith_builtin (by show (false || (backTo cpos (starEach es X.env)).any (·.1)) = false; rw [hplain] <;> rfl) (Calls.evalArgs_plain ?_)
 exact thn hA fun us s2 ⟨vs, H2, I2, r2, q2⟩ => hm pins s2 σ H2 x vs v us Q I2 r1 r2 q2
end
def MtM (X : Cx) (id : String) (r : V -> List V -> Hp -> VK -> Prop) : Prop :=
 ∀ (pins : List (Addr × Obj)) (s : Shared) (σ : St) (H : Hp) (x : V) (xs : List V) (v : Value) (us : List Value) (Q : VK), Inv X pins σ H s -> aQ x v -> aL xs us -> r x xs H Q ->
  wpAny (model X.prog X.w) X.A (call (.builtin id) (v :: us)) (EP X pins σ Q) X.xe s
theorem aL.one : ∀ {x : V} {us : List Value}, aL [x] us -> ∃ u, us = [u] /\ aQ x u
 | _, _, .cons r .nil => ⟨_, rfl, r⟩
theorem aL.zero : ∀ {us : List Value}, aL [] us -> us = []
 | _, .nil => rfl
theorem aL.dropLast {xs : List V} {us : List Value} (h : aL xs us) : aL xs.dropLast us.dropLast := by
 induction h with
 | nil => exact .nil
 | cons r t ih =>
  cases t with
  | nil => exact .nil
  | cons q t' => exact .cons r ih
theorem aL.reverse {xs : List V} {us : List Value} (h : aL xs us) : aL xs.reverse us.reverse := by
 induction h with
 | nil => exact .nil
 | cons r t ih => rw [List.reverse_cons, List.reverse_cons]; exact aL.append ih (.cons r .nil)
theorem aL.rep {xs : List V} {us : List Value} (h : aL xs us) : ∀ k : Nat, aL (List.replicate k xs).flatten (List.replicate k us).flatten
 | 0 => .nil
 | k + 1 => by
  rw [List.replicate_succ, List.replicate_succ, List.flatten_cons, List.flatten_cons]
  exact aL.append h (aL.rep h k)
theorem nj {α : Type} (l : List α) : l.eraseIdx (l.length - 1) = l.dropLast := by
 induction l with
 | nil => rfl
 | cons a r ih =>
  cases r with
  | nil => rfl
  | cons b r =>
   have e : (a :: b :: r).length - 1 = ((b :: r).length - 1) + 1 := by
    have h1 : (a :: b :: r).length = r.length + 2 := rfl
    have h2 : (b :: r).length = r.length + 1 := rfl
    omega
   rw [e, List.eraseIdx_cons_succ, ih]
   all_goals rfl
theorem gt (its : List Value) : ∀ (k : Nat) (acc : List Value),
  List.foldl (fun x1 x2 => x1 ++ x2) acc.toArray (List.replicate k its.toArray) = (acc ++ (List.replicate k its).flatten).toArray
 | 0, acc => by simp
 | k + 1, acc => by
  have e : acc.toArray ++ its.toArray = (acc ++ its).toArray := by simp
  have e2 : (acc ++ its) ++ (List.replicate k its).flatten = acc ++ (List.replicate (k + 1) its).flatten := by
   rw [List.replicate_succ, List.flatten_cons, List.append_assoc]
  rw [<- e2, <- gt its k (acc ++ its), <- e, List.replicate_succ, List.foldl_cons]
section
variable {X : Cx} {pins : List (Addr × Obj)} {σ : St} {H : Hp} {s : Shared} {l b : Addr} {xs ys zs : List V}
theorem Inv.lset {its its' : List Value} {n : Nat} {f : Array Value -> Array Value} {t' : Nat} (I : Inv X pins σ H s) (hH : H l = some (.lst xs))
  (e : s.heap.get? l = some { cls := .type "list", data := .seq its.toArray n }) (hf : f its.toArray = its'.toArray) (hv : aL ys its') (hz : ys.length <= sizeLine) :
  Inv X pins σ (upd H l (.lst ys)) { s with heap := s.heap.update l (Obj.mapSeq f), toks := t' } := by
 have q := PySem.IsL.update e f
 rw [hf] at q
 refine I.write (x := l) (e := l) (by rw [hH]; exact trivial) (.inl rfl) (fun b' u hb hu => (Heap.get?_update_other s.heap (Obj.mapSeq f) (Ne.symm hb)).trans hu) ⟨_, q⟩ ?_
 exact ⟨hz, its', _, hv, q⟩
theorem Inv.lnew {its : List Value} {t' : Nat} (I : Inv X pins σ H s) (hv : aL ys its) (hz : ys.length <= sizeLine) :
  Inv X pins σ (upd H s.heap.objs.size (.lst ys)) { s with heap := s.heap.push { cls := .type "list", data := .seq its.toArray }, toks := t' } :=
 I.laid (fun _ _ q => Heap.get?_push_of_some _ q) (Nat.le_refl _) ⟨hz, its, 0, hv, Heap.get?_push_size _ rfl⟩
theorem Inv.fresh (I : Inv X pins σ H s) : H s.heap.objs.size = none := I.hok.fresh (Nat.le_refl _)
theorem Inv.lstM (I : Inv X pins σ H s) (hH : H l = some (.lst xs)) : xs.length <= sizeLine /\ ∃ (its : List Value) (n : Nat), aL xs its /\ xs.length = its.length /\ s.heap.get? l = some { cls := .type "list", data := .seq its.toArray n } := by
 obtain ⟨z, its, n, r, e⟩ := I.hok l _ hH
 exact ⟨z, its, n, r, r.length, e⟩
theorem iC {n : Nat} (h : n <= sizeLine) : Builtin.List.listTooLong n = false := by
 unfold Builtin.List.listTooLong
 exact decide_eq_false (by omega)
end
section
variable {X : Cx}
def uP : V -> List V -> Hp -> VK -> Prop := fun x vs H Q => ∃ l xs y, x = .ref l /\ vs = [y] /\ H l = some (.lst xs) /\ xs.length < sizeLine /\ Q .non (upd H l (.lst (xs ++ [y])))
theorem bZ : MtM X "list.append" uP := by
 intro pins s σ H x vs v us Q I rx rv h
 obtain ⟨l, xs, y, rfl, rfl, hH, hz, q⟩ := h
 cases rx
 obtain ⟨u, rfl, ru⟩ := rv.one
 obtain ⟨z, its, n, r, hl, e⟩ := I.lstM hH
 refine call_meets F.slot_list_append ⟨_, e, rfl⟩ F.entry_list_append (F.args_list_append_2 _ _) (PySem.list_append l its.toArray n u (by rw [List.size_toArray]; omega)) ⟨e, ?_⟩
 refine ⟨.non, _, I.lset (its' := its ++ [u]) hH e (by simp) (r.append (.cons ru .nil)) ?_, rfl, q⟩
 rw [List.length_append, List.length_singleton]
 omega
def ua : V -> List V -> Hp -> VK -> Prop := fun x vs H Q => ∃ l b xs zs, x = .ref l /\ vs = [.ref b] /\ H l = some (.lst xs) /\ H b = some (.lst zs) /\ xs.length + zs.length <= sizeLine /\ Q .non (upd H l (.lst (xs ++ zs)))
theorem gx : MtM X "list.extend" ua := by
 intro pins s σ H x vs v us Q I rx rv h
 obtain ⟨l, b, xs, zs, rfl, rfl, hH, hB, hz, q⟩ := h
 cases rx
 obtain ⟨u, rfl, ru⟩ := rv.one
 cases ru
 obtain ⟨z, its, n, r, hl, e⟩ := I.lstM hH
 obtain ⟨z2, its2, n2, r2, hl2, e2⟩ := I.lstM hB
 have hsz : its.toArray.size + its2.toArray.size <= sizeLine := by rw [List.size_toArray, List.size_toArray]; omega
 have hlong : ¬ (!its.toArray.isEmpty && Builtin.List.listTooLong (its.toArray.size + its2.toArray.size)) = true := by
  rw [iC hsz, Bool.and_false]
  exact Bool.false_ne_true
 refine call_meets F.slot_list_extend ⟨_, e, rfl⟩ F.entry_list_extend (F.args_list_extend_2 _ _)
  (AutoSeq1.list_extend_list_list_0 l its.toArray n b its2.toArray n2 hlong (by rw [List.size_toArray]; omega) (by omega)) ⟨e, e2, ?_⟩
 refine ⟨.non, _, I.lset (its' := its ++ its2) hH e (by simp) (r.append r2) ?_, rfl, q⟩
 rw [List.length_append]
 omega
def yj : V -> List V -> Hp -> VK -> Prop := fun x vs H Q => ∃ l xs y, x = .ref l /\ vs = [] /\ H l = some (.lst xs) /\ xs[xs.length - 1]? = some y /\ Q y (upd H l (.lst xs.dropLast))
theorem iz : MtM X "list.pop" yj := by
 intro pins s σ H x vs v us Q I rx rv h
 obtain ⟨l, xs, y, rfl, rfl, hH, hy, q⟩ := h
 cases rx
 have hus := rv.zero
 subst hus
 obtain ⟨z, its, n, r, hl, e⟩ := I.lstM hH
 obtain ⟨u, hu, ru⟩ := r.get hy
 have hy' : its.toArray[its.toArray.size - 1]? = some u := by
  show its.toArray[its.length - 1]? = some u
  rw [<- Array.getElem?_toList, <- hl]
  exact hu
 refine call_meets F.slot_list_pop ⟨_, e, rfl⟩ F.entry_list_pop (F.args_list_pop_1 _) (MeetsSeq.list_pop_last l its.toArray n u hy' (by rw [List.size_toArray]; omega)) ⟨e, ?_⟩
 refine ⟨y, _, I.lset (its' := its.dropLast) hH e ?_ r.dropLast ?_, ru, q⟩
 ·show its.toArray.eraseIdxIfInBounds (its.toArray.size - 1) = its.dropLast.toArray
  rw [List.size_toArray, List.eraseIdxIfInBounds_toArray, nj]
 ·rw [List.length_dropLast]
  omega
def tI : V -> List V -> Hp -> VK -> Prop := fun x vs H Q => ∃ l xs, x = .ref l /\ vs = [] /\ H l = some (.lst xs) /\ Q .non (upd H l (.lst xs.reverse))
theorem nW : MtM X "list.reverse" tI := by
 intro pins s σ H x vs v us Q I rx rv h
 obtain ⟨l, xs, rfl, rfl, hH, q⟩ := h
 cases rx
 have hus := rv.zero
 subst hus
 obtain ⟨z, its, n, r, hl, e⟩ := I.lstM hH
 refine call_meets F.slot_list_reverse ⟨_, e, rfl⟩ F.entry_list_reverse (F.args_list_reverse_1 _) (AutoSeq1.list_reverse_list_0 l its.toArray n (by rw [List.size_toArray]; omega)) ⟨e, ?_⟩
 refine ⟨.non, _, I.lset (its' := its.reverse) hH e (by simp) r.reverse ?_, rfl, q⟩
 rw [List.length_reverse]
 omega
def wo : V -> List V -> Hp -> VK -> Prop := fun x vs H Q => ∃ l xs, x = .ref l /\ vs = [] /\ H l = some (.lst xs) /\ Q .non (upd H l (.lst []))
theorem tK : MtM X "list.clear" wo := by
 intro pins s σ H x vs v us Q I rx rv h
 obtain ⟨l, xs, rfl, rfl, hH, q⟩ := h
 cases rx
 have hus := rv.zero
 subst hus
 obtain ⟨z, its, n, r, hl, e⟩ := I.lstM hH
 refine call_meets F.slot_list_clear ⟨_, e, rfl⟩ F.entry_list_clear (F.args_list_clear_1 _) (AutoSeq1.list_clear_list_0 l its.toArray n (by rw [List.size_toArray]; omega)) ⟨e, ?_⟩
 exact ⟨.non, _, I.lset (its' := []) (ys := []) hH e rfl .nil (Nat.zero_le _), rfl, q⟩
def ym : R2 := fun x y H Q => ∃ l b xs zs, x = .ref l /\ y = .ref b /\ H l = some (.lst xs) /\ H b = some (.lst zs) /\ xs.length + zs.length <= sizeLine /\ ∀ p, H p = none -> Q (.ref p) (upd H p (.lst (xs ++ zs)))
theorem oz : OpR X (binaryOp .Add) ym := by
 intro pins s σ H x y v u Q I rx ry h
 obtain ⟨l, b, xs, zs, rfl, rfl, hH, hB, hz, q⟩ := h
 cases rx
 cases ry
 obtain ⟨z, its, n, r, hl, e⟩ := I.lstM hH
 obtain ⟨z2, its2, n2, r2, hl2, e2⟩ := I.lstM hB
 refine PySem.P.add_list e e2 ?_ (by rw [List.size_toArray, List.size_toArray]; omega)
 have ea : its.toArray ++ its2.toArray = (its ++ its2).toArray := by simp
 rw [ea]
 exact ⟨.ref _, _, I.lnew (t' := s.toks) (r.append r2) (by rw [List.length_append]; omega), rfl, q _ I.fresh⟩
def yl : R2 := fun x y H Q => ∃ l k xs, x = .ref l /\ y = .int k /\ H l = some (.lst xs) /\ -(2 ^ 63) <= k /\ k < 2 ^ 63 /\ xs.length * k.toNat <= sizeLine /\
 ∀ p, H p = none -> Q (.ref p) (upd H p (.lst (List.replicate k.toNat xs).flatten))
theorem len_rep {α : Type} (xs : List α) (k : Nat) : (List.replicate k xs).flatten.length = k * xs.length := by
 induction k with
 | zero => simp
 | succ k ih => rw [List.replicate_succ, List.flatten_cons, List.length_append, ih, Nat.succ_mul, Nat.add_comm]
theorem vI : OpR X (binaryOp .Mult) yl := by
 intro pins s σ H x y v u Q I rx ry h
 obtain ⟨l, k, xs, rfl, rfl, hH, h1, h2, hz, q⟩ := h
 cases rx
 obtain ⟨t, rfl⟩ := ry
 obtain ⟨z, its, n, r, hl, e⟩ := I.lstM hH
 have hlen : its.toArray.size * k.toNat <= sizeLine := by rw [List.size_toArray, <- hl]; exact hz
 have hcap : ¬ its.toArray.size * k.toNat > (2 ^ 63 - 1) / 8 := by
  have : (sizeLine : Nat) <= (2 ^ 63 - 1) / 8 := by decide
  omega
 have hfit : ¬ (!Builtin.List.listFitsIndex k) = true := by
  rw [fitsIndex_both h1 h2]
  exact Bool.false_ne_true
 have hlong : ¬ Builtin.List.listTooLong (its.toArray.size * k.toNat) = true := by
  rw [iC hlen]
  exact Bool.false_ne_true
 have hnew : List.foldl (fun x1 x2 => x1 ++ x2) #[] (List.replicate (if its.toArray.isEmpty = true then 0 else k.toNat) its.toArray) = (List.replicate k.toNat its).flatten.toArray := by
  have f0 : ∀ m : Nat, List.foldl (fun x1 x2 => x1 ++ x2) #[] (List.replicate m its.toArray) = (List.replicate m its).flatten.toArray := fun m => by
   have := gt its m []
   rw [List.nil_append] at this
   exact this
  rw [f0]
  cases its with
  | nil => simp
  | cons a r' => rw [if_neg (by simp)]
 refine wpAny_binaryOp_repeat_ref (T := "list") (U := "int") (by decide) ⟨_, e, rfl⟩ (fun s' => typeIs_int s' k t) noFill_list_mul F.fills_int_mul F.slot_int_rmul repeat_list F.slot_int_index.lookup
  (call_meets F.slot_int_rmul (typeIs_int s k t) F.entry_int_rmul (F.args_int_rmul_2 _ _) (int___rmul___int_list k t l its.toArray n)
   ⟨e, rfl, ⟨_, e, rfl⟩, call_meets F.slot_list_mul ⟨_, e, rfl⟩ F.entry_list_mul (F.args_list_mul_2 _ _) (AutoListH.list___mul___list_int_3 l its.toArray n k t hfit hcap hlong) ⟨e, ?_⟩⟩)
 rw [hnew]
 exact ⟨.ref _, _, I.lnew (t' := s.toks) (r.rep k.toNat) (by rw [len_rep, Nat.mul_comm]; exact hz), rfl, q _ I.fresh⟩
end
section
variable {prog : Program} {w : World} {A : Around} {E : Value -> Shared -> Prop} {s : Shared}
end
section
variable {X : Cx}
end
end L2
namespace Att
open PySem PySem.W PySem.Calls PyProof.Rows
theorem hJ {P : Params} {h : Heap} : ∀ (ns : List Int) (vs : List Value), WellAll P h vs (ns.map WData.int) -> IntsAre vs ns := by
 intro ns
 induction ns with
 | nil =>
  intro vs w
  rw [List.map_nil] at w
  cases w
  exact .nil
 | cons n ns ih =>
  intro vs w
  rw [List.map_cons] at w
  cases w with
  | cons a b =>
   cases a
   exact .cons _ _ (ih _ b)
theorem qr {l : OpenLaw} {n : Nat} (hn : l.most = some n) {P : Params} {h : Heap} {args : List WData} {vals : List Value}
  (hpre : l.row.toRowW.claim.pre args = true) (hwl : WellAll P h vals args) :
  ∃ a vs ns, vals = [Value.ref a] /\ args = [WData.list (ns.map WData.int)] /\ h.get? a = some { cls := .type "list", data := .seq vs.toArray } /\ IntsAre vs ns /\ ns.length <= n := by
 have hsh : WShape.hasAll [] args [.list .int] = true := (pre_splitW hpre).1
 have hc : l.pre.holds [] { args := args } = true := (pre_splitW hpre).2
 obtain ⟨d, r, rfl, h1, h2⟩ := hasAllW_cons hsh
 obtain rfl := hasAllW_nil h2
 obtain ⟨xs, rfl, h3⟩ := hasW_list h1
 obtain ⟨ns, rfl⟩ := items_int h3
 have hlen : ns.length <= n := by
  unfold OpenLaw.pre at hc
  have h4 : (WTm.not (.lt (.lit (.int (n : Int))) (.len (.arg 0)))).holds [] { args := [.list (ns.map .int)] } = true := by
   have h4 := (holds_andW hc).1
   rw [hn] at h4
   exact h4
  have h5 := condW_of h4 (w_not (w_lt w_lit (w_len_list (w_arg rfl))))
  rw [List.length_map] at h5
  refine Nat.le_of_not_lt fun q => ?_
  have q' : (n : Int) < ((ns.length : Nat) : Int) := by omega
  first
   | (rw [decide_eq_true q'] at h5; exact absurd h5 (by decide))
   | (simp at h5; omega)
 cases hwl with
 | cons w1 w2 =>
  cases w2
  cases w1 with
  | list ho hall => exact ⟨_, _, ns, rfl, rfl, ho, hJ ns _ hall, hlen⟩
theorem qP (l : OpenLaw) (args : List WData) : l.row.toRowW.claim.post args (.bool true) args = true :=
 postW_of (r := l.row.toRowW) (X := (true == true))
  (show WShape.has [] (.bool true) .bool = true by first | rfl | decide | simp [WShape.has, WShape.arms, WShape.armsAll])
  (show (WTm.eq .res (.lit (.bool true))).value [] { args := args, res := some (.bool true), after := args } = some (.bool (true == true)) from w_eq_bool (w_res rfl) w_lit) rfl
theorem attach_call {l : OpenLaw} {n : Nat} {q : Program} {loose : List Str} {XP : (Str -> Option Value) -> Heap -> Prop} {YP : World -> Heap -> Prop} {d : DefRec}
  (hn : l.most = some n) (hdf : d.params.defaults = [])
  (call : ∀ (w : World) (s₀ s₁ : Shared) (mg mb : Str -> Option Value) (fa : Addr) (o : Obj) (pm cd doc : Value) (a : Addr) (vs : List Value) (ns : List Int),
   Ground q loose [] XP w s₀ mg mb s₁.heap -> YP w s₁.heap ->
   s₁.heap.get? fa = some o -> o.data = .func (docDef d.name d.params d.body d.scope pm cd doc) -> s₁.heap.CodeRec cd d.name -> mg d.name = some (.ref fa) ->
   s₁.heap.get? a = some { cls := .type "list", data := .seq vs.toArray } -> IntsAre vs ns -> ns.length <= n -> s₁.gens = #[] ->
   codeAny (model l.prog w) callerA (.call (.ref fa) ⟨[.ref a], []⟩) (fun r s' => r = .ok (.ret (.bool true)) /\ OldK s₁.heap s'.heap /\ s'.os = s₁.os /\ AllBare s'.gens) s₁) :
  WalkO q loose XP YP l.row.toRowW d [] (fun f vs => PySem.call f vs) := by
 intro w s₀ s₁ mg mb G Y fa o pm cd doc dV kV ho hd hcd hD hmg hg args vals as hpre hlay hrd hwl hlo
 obtain rfl : dV = .none := Dflts.none hD hdf
 obtain rfl : kV = .none := Dflts.noKw hD
 obtain ⟨a, vs, ns, rfl, rfl, hobj, hints, hlen⟩ := qr hn hpre hwl
 refine enter_call (codeAny_mono (call w s₀ s₁ mg mb fa o pm cd doc a vs ns G Y ho (fd_plain hd) hcd hmg hobj hints hlen hg) fun r s' hq => ?_)
 obtain ⟨rfl, h2, h3, h4⟩ := hq
 exact ⟨.inl ⟨.bool true, .bool true, [], rfl, fun _ => rfl, .bool true, qP l _, fun _ => ⟨List.Pairwise.nil, fun _ hm => (nomatch hm)⟩⟩, h2, h3, h4⟩
section
variable {prog : Program} {w : World} {A : Around} {E : Value -> Shared -> Prop} {s : Shared} {K : Frag}
def noObjs (h : Heap) : Heap := { h with objs := #[] }
theorem noObjs_get (h : Heap) (b : Addr) : (noObjs h).get? b = none := by
 cases e : (noObjs h).get? b with
 | none => rfl
 | some o => exact absurd (Heap.lt_size e) (Nat.not_lt_zero _)
theorem fr_all {h : Heap} {L : Addr} {m : Str -> Option Value} (n : h.Ns L m) : Fr (noObjs h) L h m :=
 ⟨n, fun b o e => (by rw [noObjs_get] at e; cases e), Nat.zero_le _⟩
end
end Att
namespace L2
open PySem PySem.Spec PyProof.Rows
theorem jI : ∀ {vs : List Value} {ns : List Int}, IntsAre vs ns -> aL (ns.map V.int) vs
 | _, _, .nil => .nil
 | _, _, .cons n t h => .cons ⟨t, rfl⟩ (jI h)
def wf (H : Hp) : Prop := ∀ b, H b = none \/ ∃ o xs, H b = some (.frz o (.lst xs))
theorem rl {P : Program} {w : World} {K : PySem.W.Frag} {mg mb : Str -> Option Value} {CX : CXT} {k : Nat} {fa a : Addr} {fd : FuncData} {x : Str} {sp : Sp} {s₁ : Shared} {vs : List Value} {ns : List Int}
  (KX : K.In s₁.heap) (hns : s₁.heap.Ns mainGlobals mg) (hb : s₁.heap.Ns builtinsNs mb) (hbb : ∀ x : Str, x ≠ "__name__" -> mb x = bootBuiltins x) (hlim : s₁.heap.NoLimit) (hg : s₁.gens = #[])
  (ha : s₁.heap.get? a = some { cls := .type "list", data := .seq vs.toArray }) (hi : IntsAre vs ns) (hl : ns.length <= sizeLine) (hr : dR k callerA)
  (F : ∀ base : Heap, K.In base -> base.Ns mainGlobals mg -> bi P w K mg base CX k fa fd [x] sp) (hbind : ∀ (s : Shared) (u : Value), BindsTo s fd ⟨[u], []⟩ [(x, u)])
  (hsp : ∀ H : Hp, wf H -> SqL K H a (ns.map V.int) -> sp [.ref a] H (fun v _ => v = .bl true) fun _ _ _ => False)
  (hCX : ∀ H e s', CX [] H s₁ (fun _ _ _ => False) e s' -> False) :
  codeAny (model P w) callerA (.call (.ref fa) ⟨[.ref a], []⟩) (fun r s' => r = .ok (.ret (.bool true)) /\ OldK s₁.heap s'.heap /\ s'.os = s₁.os /\ AllBare s'.gens) s₁ := by
 have rv := jI hi
 have lenV := hi.length
 have core : ∀ H : Hp, wf H -> SqL K H a (ns.map V.int) -> HOk P w H s₁.heap -> (∀ b, H b ≠ none -> b = a) -> (H a ≠ none -> K.lookup a = none) ->
   codeAny (model P w) callerA (.call (.ref fa) ⟨[.ref a], []⟩) (fun r s' => r = .ok (.ret (.bool true)) /\ OldK s₁.heap s'.heap /\ s'.os = s₁.os /\ AllBare s'.gens) s₁ := by
  intro H hO hS hok hA hK
  have base_of : ∀ {b : Addr} {o : Obj}, s₁.heap.get? b = some o -> H b = none -> (kM s₁.heap H).get? b = some o := fun e n => rf e n
  have noA : ∀ {b : Addr} {o : Obj} {es : Array DictEntry} {ep : Nat}, s₁.heap.get? b = some o -> o.data = .dict es ep -> H b = none := fun {b o es ep} e d => by
   cases q : H b with
   | none => rfl
   | some u =>
    have e' : b = a := hA b (by rw [q]; simp)
    subst e'
    rw [ha] at e; cases e
    have d' : Data.seq vs.toArray _ = Data.dict es ep := d
    cases d'
  have nsK : ∀ {b : Addr} {m : Str -> Option Value}, s₁.heap.Ns b m -> (kM s₁.heap H).Ns b m := fun {b m} ⟨o, es, ep, e, d, r⟩ => ⟨o, es, ep, base_of e (noA e d), d, r⟩
  have hKb : K.In (kM s₁.heap H) := fun b o e => base_of (KX b o e) (by
   cases q : H b with
   | none => rfl
   | some u =>
    have e' : b = a := hA b (by rw [q]; simp)
    subst e'
    rw [hK (by rw [q]; simp)] at e; cases e)
  have hM : Mod K mg (kM s₁.heap H) := ⟨hKb, nsK hns, ⟨mb, nsK hb, hbb⟩, let ⟨mc, h1, h2⟩ := hlim; ⟨mc, nsK h1, h2⟩⟩
  have e0 : uX P w K mg (kM s₁.heap H) callerA [] s₁ H := ⟨rfl, hM, fun b o e => uo e, Nat.le_of_eq (qI _ _), trivial, fun b hb => absurd (show b ∈ ([] : List Addr) from hb) (by simp), hok, .of_eq hg⟩
  refine codeAny_mono ((F _ hKb (nsK hns)).run callerA [] s₁ H ⟨[.ref a], []⟩ [.ref a] [.ref a] _ _ hr e0 (hbind s₁ (.ref a)) (.cons rfl .nil) (hsp H hO hS)) fun r s' h => ?_
  cases r with
  | error e => exact (hCX H e s' h).elim
  | ok fl =>
   cases fl with
   | next => exact False.elim h
   | brk => exact False.elim h
   | cont => exact False.elim h
   | ret u =>
    obtain ⟨v, H', os, bare, un, hok', r', q⟩ := h
    have q' : v = .bl true := q
    subst q'
    obtain rfl : u = Value.bool true := r'
    refine ⟨rfl, OldK.of_keep fun b o e => ?_, os, bare⟩
    cases q : H b with
    | none => exact un.keep b o e q (by intro z; exact absurd (show b ∈ ([] : List Addr) from z) (by simp)) (by simp)
    | some u =>
     rcases hO b with z | ⟨ob, xs, z⟩
     ·rw [q] at z; cases z
     ·have z2 := un.frzs b ob _ z
      obtain ⟨e1, _⟩ := hok b _ z
      obtain ⟨e2, _⟩ := hok' b _ z2
      rw [e] at e1; cases e1
      exact e2
 cases hk : K.lookup a with
 | some o =>
  have e := KX a o hk
  rw [ha] at e
  cases e
  refine core (fun _ => none) (fun _ => .inl rfl) (.inr ⟨_, vs.toArray, _, hk, rfl, rfl, rfl, by rw [List.size_toArray, lenV]; exact hl, by simpa using rv⟩) (fun b u z => by have z' : (none : Option HO) = some u := z; cases z') (fun b z => absurd rfl z) fun z => absurd rfl z
 | none =>
  refine core (fun b => if b = a then some (.frz { cls := .type "list", data := .seq vs.toArray } (.lst (ns.map V.int))) else none) (fun b => ?_) (.inl (.inr ⟨{ cls := .type "list", data := .seq vs.toArray }, if_pos rfl⟩)) (fun b u z => ?_) (fun b z => ?_) fun _ => hk
  ·by_cases hb : b = a
   ·exact .inr ⟨_, _, if_pos hb⟩
   ·exact .inl (if_neg hb)
  ·by_cases hb : b = a
   ·have z' := (if_pos hb).symm.trans z
    cases z'
    subst hb
    exact ⟨ha, by rw [List.length_map]; exact hl, vs, _, rv, ha⟩
   ·have z' := (if_neg hb).symm.trans z
    cases z'
  ·by_cases hb : b = a
   ·exact hb
   ·exact absurd (if_neg hb) z
theorem walk_of {l : PySem.W.OpenLaw} {n k : Nat} {q : Program} {loose : List Str} {XP : (Str -> Option Value) -> Heap -> Prop} {YP : World -> Heap -> Prop} {d : DefRec} {K : Params -> PySem.W.Frag} {CX : World -> CXT} {sp : World -> Sp} {x : Str}
  (hn : l.most = some n) (hn2 : n <= sizeLine) (hdf : d.params.defaults = []) (hr : dR k callerA)
  (hY : ∀ (w : World) (h : Heap), YP w h -> (K w.params).In h)
  (F : ∀ (w : World) (mg : Str -> Option Value) (fa : Addr) (h : Heap), (K w.params).In h -> h.Ns mainGlobals mg -> mg d.name = some (.ref fa) ->
   ∃ fd : FuncData, (∀ (s : Shared) (u : Value), BindsTo s fd ⟨[u], []⟩ [(x, u)]) /\
    ∀ base : Heap, (K w.params).In base -> base.Ns mainGlobals mg -> bi l.prog w (K w.params) mg base (CX w) k fa fd [x] (sp w))
  (hsp : ∀ (w : World) (H : Hp) (a : Addr) (ns : List Int), ns.length <= n -> wf H -> SqL (K w.params) H a (ns.map V.int) -> sp w [.ref a] H (fun v _ => v = .bl true) fun _ _ _ => False)
  (hCX : ∀ (w : World) (H : Hp) (s : Shared) (e : Value) (s' : Shared), CX w [] H s (fun _ _ _ => False) e s' -> False) :
  PySem.W.WalkO q loose XP YP l.row.toRowW d [] (fun f vs => PySem.call f vs) := by
 refine Att.attach_call hn hdf fun w s₀ s₁ mg mb fa o pm cd doc a vs ns G Y ho hd hcd hmg hobj hints hlen hg => ?_
 have KX := hY w _ Y
 obtain ⟨fd, hb, hF⟩ := F w mg fa _ KX G.T.g hmg
 exact rl KX G.T.g G.T.b G.T.builtins G.T.nolimit hg hobj hints (Nat.le_trans hlen hn2) hr hF hb (fun H hO hS => hsp w H a ns hlen hO hS) fun H e s' => hCX w H s₁ e s'
def aG (s : Stmt) : Arguments := match s with
 | .FunctionDef _ a _ _ _ _ _ _ _ _ => a
 | _ => { posonlyargs := [], args := [], vararg := none, kwonlyargs := [], kw_defaults := [], kwarg := none, defaults := [] }
def aF (s : Stmt) : List Stmt := match s with
 | .FunctionDef _ _ b _ _ _ _ _ _ _ => b
 | _ => []
def ai (s : Stmt) : Scope := match s with
 | .FunctionDef _ _ _ _ _ _ sc _ _ _ => sc
 | _ => { kind := .function, names := [], isGenerator := false, isCoroutine := false }
abbrev CX0 : CXT := fun _ _ _ _ _ _ => False
abbrev E0 : XK := fun _ _ _ => False
theorem vn {X : Cx} : nV CX0 X E0 := fun _ _ _ _ _ _ _ h => h.elim
structure Fun (K : PySem.W.Frag) (x qual : Str) (st : Stmt) (f : Addr) (fd : FuncData) : Prop where
 ex : ∃ (oc : Value) (od : Option Addr) (kV doc pm : Value) (an : Option Addr) (cdv ct : Value) (osl : Array (Option Value)),
  fd = PySem.W.fnOf x qual (aG st) (aF st) (ai st) .none kV doc pm an cdv ct /\ K.lookup f = some ⟨oc, od, .func fd, osl⟩ /\ PySem.W.codeIn K cdv qual = true
 kp : PySem.W.keepIn K (.ref f) = true
section
variable {P : Program} {w : World} {K : PySem.W.Frag} {mg : Str -> Option Value} {base : Heap}
theorem Fun.ok {x qual : Str} {st : Stmt} {f : Addr} {fd : FuncData} {N ps : List Str} {k : Nat} {sp : Sp} (F : Fun K x qual st f fd) (S : aH N ps (ai st)) (len : ∀ vs H Q E, sp vs H Q E -> vs.length = ps.length)
  (hbody : ∀ (cdv : Value) (A : Around) (outer : List Env) (s : Shared) (H : Hp) (vs : List V) (Q : VK) (E : XK), dR k (A.deeper (envOfC qual (ai st) s.heap.objs.size f cdv)) -> sp vs H Q E ->
   ∃ t, PSs (qL CX0 P w K mg base N qual (ai st) f cdv A outer s H E).nox (aF st) t /\ t { nx := fun _ H' => Q .non H', rt := Q } (gF N vs) H) : bi P w K mg base CX0 (k + 1) f fd ps sp := by
 obtain ⟨oc, od, kV, doc, pm, an, cdv, ct, osl, rfl, lk, hcd⟩ := F.ex
 refine xG lk hcd S len fun A outer s H vs Q E hr hsp => ?_
 obtain ⟨t, h, q⟩ := hbody cdv A outer s H vs Q E hr hsp
 exact ⟨t, h.nox, q⟩
theorem Fun.binds {x qual : Str} {st : Stmt} {f : Addr} {fd : FuncData} {ps : List Str} (F : Fun K x qual st f fd)
  (h : ∀ (kV doc pm : Value) (an : Option Addr) (cdv ct : Value) (us : List Value), us.length = ps.length -> bindArgs (PySem.W.fnOf x qual (aG st) (aF st) (ai st) .none kV doc pm an cdv ct) ⟨us, []⟩ = pure (ps.zip us)) : gU K fd ps [] := by
 obtain ⟨oc, od, kV, doc, pm, an, cdv, ct, osl, rfl, lk, hcd⟩ := F.ex
 exact .all (h kV doc pm an cdv ct)
theorem aP {x qual : Str} {st : Stmt} {f : Addr} {oc : Value} {od an : Option Addr} {osl : Array (Option Value)} {kV doc pm cdv ct : Value} (l : K.lookup f = some ⟨oc, od, .func (PySem.W.fnOf x qual (aG st) (aF st) (ai st) .none kV doc pm an cdv ct), osl⟩)
  (c : PySem.W.codeIn K cdv qual = true) (k : PySem.W.keepIn K (.ref f) = true) : Fun K x qual st f (PySem.W.fnOf x qual (aG st) (aF st) (ai st) .none kV doc pm an cdv ct) := ⟨⟨oc, od, kV, doc, pm, an, cdv, ct, osl, rfl, l, c⟩, k⟩
end
theorem mW {A : Around} {k : Nat} (hr : dR k A) : A.units + 1 < cLine := Nat.lt_of_le_of_lt (Nat.add_le_add_left (by decide : 1 <= 64) _) hr.units
theorem jm {n : Nat} (h : n <= 1000) : n < sizeLine := Nat.lt_of_le_of_lt h (by decide)
section
variable {X : Cx}
theorem pv (i : Nat) {x : Str} {pos : Pos} (hN : X.N[i]? = some x := by rfl) (hv : Vis X.env.scope x := by first | exact Or.inl rfl | exact Or.inr (Or.inl rfl) | exact Or.inr (Or.inr rfl)) (hd : (x == ("__debug__" : Str)) = false := by decide)
  (hcd : (x == ("__classdict__" : Str)) = false := by decide) : PE X (.Name x pos) (je i) := sh hN hv hd hcd
end
theorem aM {A B : Prop} (h : B) : if false = true then A else B := by
 rw [if_neg Bool.false_ne_true]
 exact h
theorem aO {A B : Prop} (h : A) : if true = true then A else B := by
 rw [if_pos rfl]
 exact h
theorem bn {c A B : Prop} [Decidable c] (h1 : c -> A) (h2 : ¬ c -> B) : if c then A else B := by
 by_cases h : c
 ·rw [if_pos h]
  exact h1 h
 ·rw [if_neg h]
  exact h2 h
theorem vi {c A B : Prop} [Decidable c] (hc : c) (h : B) : if (!decide c) = true then A else B := by
 rw [decide_eq_true hc]
 exact aM h
def ao (H H' : Hp) : Prop := ∀ b o, H b = some o -> H' b = some o
theorem ao.refl (H : Hp) : ao H H := fun _ _ h => h
theorem ao.trans {H H1 H2 : Hp} (a : ao H H1) (b : ao H1 H2) : ao H H2 := fun c o h => b c o (a c o h)
theorem ao.free {H H' : Hp} (e : ao H H') {l : Addr} (h : H' l = Option.none) : H l = Option.none := by
 cases q : H l with
 | none => rfl
 | some o =>
  rw [e l o q] at h
  cases h
theorem ao.seq {K : PySem.W.Frag} {H H' : Hp} {a : Addr} {xs : List V} (e : ao H H') (h : SqL K H a xs) : SqL K H' a xs := by
 rcases h with (h | ⟨o, h⟩) | h
 ·exact .inl (.inl (e _ _ h))
 ·exact .inl (.inr ⟨o, e _ _ h⟩)
 ·exact .inr h
section
variable {κ : Type} [DecidableEq κ]
end
theorem uv {prog : Program} {w : World} {A : Around} {R : Result -> Shared -> Prop} {s : Shared} {elt target iter : Expr} {ifs : List Expr} {scope : Scope} {pos : Pos} {it acc : Value} {env : Env} (I : Nat -> Shared -> Prop)
  (turn : ∀ n s, I n s -> wpAny (model prog w) A (pyNext it) (fun r s₁ => match r with
   | none => R (.ok .next) s₁
   | some v => wpAny (model prog w) A (letOwnedTupleGo target it v) (fun _ s₁' => wpAny (model prog w) A (assign target env v) (fun _ s₂ =>
     wpAny (model prog w) A (forIn ifs true fun c r => if r = true then do let ok <- isTrue c env (eval c env); pure (ForInStep.yield ok) else pure (ForInStep.yield r)) (fun ok s₃ =>
      if ok = true then wpAny (model prog w) A (eval elt env) (fun x s₄ =>
       wpAny (model prog w) A (call (.builtin "list.append") [acc, x]) (fun _ s₅ => ∃ m, m < n /\ I m s₅) (fun _ _ => False) s₄) (fun _ _ => False) s₃
      else ∃ m, m < n /\ I m s₃) (fun _ _ => False) s₂) (fun _ _ => False) s₁') (fun _ _ => False) s₁) (fun _ _ => False) s)
  (n : Nat) (h : I n s) :
  codeAny (model prog w) A (.compLoop (.ListComp elt [⟨target, iter, ifs, 0⟩] scope pos) 0 it acc env) R s := by
 refine codeAny_loop rfl I (fun n s hI => ?_) n h
 show wpAny _ A ((compTurn (.ListComp elt [⟨target, iter, ifs, 0⟩] scope pos) 0 it acc env).onRaise (fun x => do noteFrame x env; theTreesLotGoes x)) _ _ s
 refine wpAny_noted ?_
 rw [compTurn_list]
 have no : ∀ {E : Value -> Shared -> Prop} (x : Value) (s : Shared), False -> E x s := fun _ _ z => z.elim
 refine wpAny_bind (wpAny_standAt (wpAny_bind (wpAny_mono (turn n s hI) (fun r s₁ h₁ => ?_) no)))
 cases r with
 | none => exact wpAny_pure h₁
 | some v =>
  refine wpAny_bind (wpAny_mono h₁ (fun _ s₁' h₁' => ?_) no)
  refine wpAny_bind (wpAny_mono h₁' (fun _ s₂ h₂ => wpAny_bind (wpAny_mono h₂ (fun ok s₃ h₃ => ?_) no)) no)
  cases ok with
  | false => exact wpAny_pure ⟨rfl, h₃⟩
  | true =>
   exact wpAny_bind (wpAny_bind (wpAny_mono h₃ (fun x s₄ h₄ => wpAny_bind (wpAny_mono h₄ (fun _ s₅ h₅ => wpAny_pure (wpAny_pure ⟨rfl, h₅⟩)) no)) no))
def bh (env : Env) : List (Str × NameKind) -> List (Str × Addr) -> List (Str × Addr)
 | [], acc => acc
 | (n, k) :: r, acc => if k = .free then bh env r (match env.cells.lookup n with | some c => (n, c) :: acc | none => acc) else bh env r acc
theorem lF {env : Env} {scope : Scope} (h : ∀ x ∈ scope.names, x.2 = .free -> ∃ c, env.cells.lookup x.1 = some c) : closureFor scope env = pure (bh env scope.names []) := by
 have all : ∀ (l : List (Str × NameKind)) (acc : List (Str × Addr)), (∀ x ∈ l, x.2 = NameKind.free -> ∃ c, env.cells.lookup x.1 = some c) ->
   (forIn l acc fun x cs => (do
    if x.2 == NameKind.free then
     let a <- cellOf env x.1
     pure (ForInStep.yield ((x.1, a) :: cs))
    else pure (ForInStep.yield cs) : Sem _)) = pure (bh env l acc) := by
  intro l
  induction l with
  | nil => intro acc _; rfl
  | cons x r ih =>
   intro acc hl
   obtain ⟨n, k⟩ := x
   have hr := fun y hy => hl y (List.mem_cons_of_mem _ hy)
   rw [List.forIn_cons]
   by_cases hk : k = .free
   ·subst hk
    obtain ⟨c, hc⟩ := hl (n, .free) List.mem_cons_self rfl
    simp only [beq_self_eq_true, if_true, bh]
    have e : cellOf env n = pure c := by unfold cellOf; rw [show env.cells.lookup n = some c from hc]
    rw [e]
    simp only [pure_bind]
    rw [ih _ hr, show env.cells.lookup n = some c from hc]
   ·have hb : (k == NameKind.free) = false := by simpa using hk
    simp only [hb, Bool.false_eq_true, if_false, bh, if_neg hk, pure_bind]
    exact ih _ hr
 unfold closureFor
 exact (congrArg (fun t : Sem (List (Str × Addr)) => t >>= pure) (all scope.names [] h)).trans (by simp)
theorem bE {env : Env} : ∀ (l : List (Str × NameKind)) (acc : List (Str × Addr)), (∀ n c, acc.lookup n = some c -> env.cells.lookup n = some c) -> ∀ n c, (bh env l acc).lookup n = some c -> env.cells.lookup n = some c
 | [], acc, h, n, c, e => h n c e
 | (m, k) :: r, acc, h, n, c, e => by
  unfold bh at e
  split at e
  ·refine bE r _ ?_ n c e
   intro n' c' e'
   split at e'
   ·rename_i c0 hc0
    rw [List.lookup_cons] at e'
    split at e'
    ·rename_i hb
     have : n' = m := by simpa using hb
     subst this
     cases e'
     exact hc0
    ·exact h n' c' e'
   ·exact h n' c' e'
  ·exact bE r _ h n c e
theorem eD {env : Env} {n : Str} : ∀ (l : List (Str × NameKind)) (acc : List (Str × Addr)), (∃ c, acc.lookup n = some c) -> ∃ c, (bh env l acc).lookup n = some c
 | [], acc, h => h
 | (m, k) :: r, acc, h => by
  unfold bh
  split
  ·refine eD r _ ?_
   obtain ⟨c, hc⟩ := h
   split
   ·rw [List.lookup_cons]
    split
    ·exact ⟨_, rfl⟩
    ·exact ⟨c, hc⟩
   ·exact ⟨c, hc⟩
  ·exact eD r _ h
theorem db {env : Env} {n : Str} (hc : ∃ c, env.cells.lookup n = some c) : ∀ (l : List (Str × NameKind)) (acc : List (Str × Addr)), (n, NameKind.free) ∈ l -> ∃ c, (bh env l acc).lookup n = some c
 | [], _, h => by cases h
 | (m, k) :: r, acc, h => by
  obtain ⟨c, hc⟩ := hc
  unfold bh
  rcases List.mem_cons.mp h with e | h
  ·cases e
   rw [if_pos rfl, hc]
   exact eD r _ ⟨c, by simp⟩
  ·split
   ·exact db ⟨c, hc⟩ r _ h
   ·exact db ⟨c, hc⟩ r _ h
def Cx.comp (X : Cx) (N : List Str) (scope : Scope) (fp : List Addr) (s : Shared) (H : Hp) : Cx where
 prog := X.prog
 w := X.w
 K := X.K
 mg := X.mg
 base := X.base
 A := X.A
 N := N
 s₀ := s
 H₀ := H
 env := compEnvC scope (bh X.env scope.names []) (s.heap.objs.size + 1) X.env
 outer := X.stack
 stack := X.stack
 ex := fp
 calm := X.calm
 fn := fun _ => false
 pn := []
 xe := fun _ _ => False
def dO (k : Nat) (ix : List Nat) (σ : St) : St := List.replicate k none ++ ix.map fun j => (σ[j]?).join
structure dL (N : List Str) (sc : Scope) (scope : Scope) (own : List Str) (ix : List Nat) : Prop where
 kind : scope.kind = .function
 nocell : ∀ y ∈ scope.names, y.2 ≠ .cell
 names : ∀ y ∈ scope.names, y.2 = .local -> scope.names.lookup y.1 = some .local
 free : ∀ y ∈ scope.names, y.2 = .free -> sc.names.lookup y.1 = some .cell \/ sc.names.lookup y.1 = some .free
 cap : ∀ j ∈ ix, ∀ x, N[j]? = some x -> (x, NameKind.free) ∈ scope.names /\ (scope.names.lookup x = some .free)
 inN : ∀ j ∈ ix, j < N.length
abbrev lcN (N own : List Str) (ix : List Nat) : List Str := own ++ ix.filterMap fun j => N[j]?
theorem um {N own : List Str} {ix : List Nat} (h : ∀ j ∈ ix, j < N.length) : (lcN N own ix).length = own.length + ix.length := by
 unfold lcN
 rw [List.length_append]
 congr 1
 induction ix with
 | nil => rfl
 | cons j r ih =>
  have hj : j < N.length := h j List.mem_cons_self
  rw [List.filterMap_cons, List.getElem?_eq_getElem hj]
  show _ + 1 = _ + 1
  rw [ih fun i hi => h i (List.mem_cons_of_mem _ hi)]
theorem fq {N : List Str} : ∀ {ix : List Nat}, (∀ j ∈ ix, j < N.length) -> ∀ {i : Nat} {x : Str}, (ix.filterMap fun j => N[j]?)[i]? = some x -> ∃ j, ix[i]? = some j /\ N[j]? = some x
 | [], _, i, x, e => by simp at e
 | j :: r, h, i, x, e => by
  have hj : j < N.length := h j List.mem_cons_self
  rw [List.filterMap_cons, List.getElem?_eq_getElem hj] at e
  cases i with
  | zero =>
   refine ⟨j, rfl, ?_⟩
   rw [List.getElem?_eq_getElem hj]
   exact e
  | succ i =>
   obtain ⟨j', e1, e2⟩ := fq (fun i hi => h i (List.mem_cons_of_mem _ hi)) (i := i) (x := x) (by simpa using e)
   exact ⟨j', by simpa using e1, e2⟩
theorem jl {k : Nat} {ix : List Nat} {σ : St} {i : Nat} {v : V} (h : (dO k ix σ)[i]? = some (some v)) : ∃ i' j, i = k + i' /\ ix[i']? = some j /\ σ[j]? = some (some v) := by
 unfold dO at h
 by_cases hi : i < k
 ·rw [List.getElem?_append_left (by simpa using hi), List.getElem?_replicate, if_pos hi] at h
  cases h
 ·rw [List.getElem?_append_right (by simpa using hi), List.length_replicate, List.getElem?_map] at h
  refine ⟨i - k, ?_⟩
  cases e : ix[i - k]? with
  | none => rw [e] at h; cases h
  | some j =>
   rw [e] at h
   refine ⟨j, by omega, rfl, ?_⟩
   have h' : (σ[j]?).join = some v := by simpa using h
   cases q : σ[j]? with
   | none => rw [q] at h'; cases h'
   | some o =>
    rw [q] at h'
    exact congrArg some h'
theorem cZ {env : Env} {x : Str} : ∀ {names : List (Str × NameKind)}, names.lookup x = some .free ->
  (names.map fun (n, k) => if (k == NameKind.free && env.scope.kind == .function && env.kindOf n == some .cell) then (n, NameKind.cell) else (n, k)).lookup x = some .cell \/
  (names.map fun (n, k) => if (k == NameKind.free && env.scope.kind == .function && env.kindOf n == some .cell) then (n, NameKind.cell) else (n, k)).lookup x = some .free
 | [], h => by simp at h
 | (n, k) :: r, h => by
  have ih := @cZ env x r
  rw [List.map_cons]
  show List.lookup x ((if (k == NameKind.free && env.scope.kind == .function && env.kindOf n == some .cell) = true then (n, NameKind.cell) else (n, k)) :: _) = _ \/ List.lookup x ((if (k == NameKind.free && env.scope.kind == .function && env.kindOf n == some .cell) = true then (n, NameKind.cell) else (n, k)) :: _) = _
  cases hx : x == n with
  | true =>
   simp only [List.lookup_cons, hx] at h
   cases h
   by_cases hc : (NameKind.free == NameKind.free && env.scope.kind == .function && env.kindOf n == some .cell) = true
   ·rw [if_pos hc]; left; simp only [List.lookup_cons, hx]
   ·rw [if_neg hc]; right; simp only [List.lookup_cons, hx]
  | false =>
   simp only [List.lookup_cons, hx] at h
   by_cases hc : (k == NameKind.free && env.scope.kind == .function && env.kindOf n == some .cell) = true
   ·rw [if_pos hc]; simp only [List.lookup_cons, hx]; exact ih h
   ·rw [if_neg hc]; simp only [List.lookup_cons, hx]; exact ih h
theorem cU {env : Env} {x : Str} {kd : NameKind} : ∀ {names : List (Str × NameKind)},
  (names.map fun (n, k) => if (k == NameKind.free && env.scope.kind == .function && env.kindOf n == some .cell) then (n, NameKind.cell) else (n, k)).lookup x = some kd -> (kd = .cell \/ kd = .free) -> (∀ y ∈ names, y.2 ≠ .cell) ->
  (x, NameKind.free) ∈ names
 | [], h, _, _ => by simp at h
 | (n, k) :: r, h, hk, hc => by
  have ih := @cU env x kd r
  rw [List.map_cons] at h
  have hcr : ∀ y ∈ r, y.2 ≠ .cell := fun y hy => hc y (List.mem_cons_of_mem _ hy)
  by_cases hf : k = .free
  ·subst hf
   cases hx : x == n with
   | true =>
    have : x = n := by simpa using hx
    subst this
    exact List.mem_cons_self
   | false =>
    refine List.mem_cons_of_mem _ (ih ?_ hk hcr)
    by_cases hcc : (NameKind.free == NameKind.free && env.scope.kind == .function && env.kindOf n == some .cell) = true
    ·have h2 : List.lookup x ((if (NameKind.free == NameKind.free && env.scope.kind == .function && env.kindOf n == some .cell) = true then (n, NameKind.cell) else (n, NameKind.free)) :: r.map fun (n, k) => if (k == NameKind.free && env.scope.kind == .function && env.kindOf n == some .cell) then (n, NameKind.cell) else (n, k)) = some kd := h
     rw [if_pos hcc, List.lookup_cons, hx] at h2
     exact h2
    ·have h2 : List.lookup x ((if (NameKind.free == NameKind.free && env.scope.kind == .function && env.kindOf n == some .cell) = true then (n, NameKind.cell) else (n, NameKind.free)) :: r.map fun (n, k) => if (k == NameKind.free && env.scope.kind == .function && env.kindOf n == some .cell) then (n, NameKind.cell) else (n, k)) = some kd := h
     rw [if_neg hcc, List.lookup_cons, hx] at h2
     exact h2
  ·have hb : (k == NameKind.free) = false := by simpa using hf
   have h2 : List.lookup x ((if (k == NameKind.free && env.scope.kind == .function && env.kindOf n == some .cell) = true then (n, NameKind.cell) else (n, k)) :: r.map fun (n, k) => if (k == NameKind.free && env.scope.kind == .function && env.kindOf n == some .cell) then (n, NameKind.cell) else (n, k)) = some kd := h
   rw [hb, Bool.false_and, Bool.false_and, if_neg Bool.false_ne_true, List.lookup_cons] at h2
   cases hx : x == n with
   | true =>
    rw [hx] at h2
    cases h2
    rcases hk with z | z
    ·exact absurd z (hc (n, _) List.mem_cons_self)
    ·exact absurd z hf
   | false =>
    rw [hx] at h2
    exact List.mem_cons_of_mem _ (ih h2 hk hcr)
theorem nlt {a b : Nat} (h : a < b) : a ≠ b := Nat.ne_of_lt h
theorem ngt {a b : Nat} (h : a < b) : b ≠ a := Nat.ne_of_gt h
theorem ng {a b : Nat} (h : a < b) : a ≠ b + 1 := Nat.ne_of_lt (Nat.lt_succ_of_lt h)
theorem yr {a b : Nat} (h : a < b) : b + 1 ≠ a := Nat.ne_of_gt (Nat.lt_succ_of_lt h)
theorem nss (a : Nat) : a ≠ a + 1 := Nat.ne_of_lt (Nat.lt_succ_self a)
theorem xN (a : Nat) : a + 1 ≠ a := Nat.ne_of_gt (Nat.lt_succ_self a)
section
variable {X : Cx} {pins : List (Addr × Obj)} {σ : St} {H : Hp} {s : Shared} {scope : Scope} {own : List Str} {ix : List Nat} {fp : List Addr}
theorem Inv.compOk {N : List Str} (I : Inv X pins σ H s) (L : dL X.N X.env.scope scope own ix) (hf : ∀ b ∈ fp, iE X pins H b) (hlt : ∀ b ∈ fp, b < s.heap.objs.size) : (X.comp N scope fp s H).Ok where
 mod := I.ok.mod
 kind := L.kind
 glob := I.ok.glob
 blt := I.ok.blt
 above := Nat.le_succ _
 inj := fun x y c h1 h2 => I.ok.inj x y c (bE _ _ (fun _ _ z => by simp at z) x c h1) (bE _ _ (fun _ _ z => by simp at z) y c h2)
 has := fun x hx => by
  have hm : (x, NameKind.free) ∈ scope.names := by
   rcases hx with hx | hx
   ·exact cU (env := X.env) (x := x) (names := scope.names) hx (.inl rfl) L.nocell
   ·exact cU (env := X.env) (x := x) (names := scope.names) hx (.inr rfl) L.nocell
  exact db (I.ok.has x (L.free _ hm rfl)) _ _ hm
 cab := fun x c h => by cases h
 hd := I.ok.hd
 frames := I.ok.frames
 stk := .inl rfl
 exf := fun b hb => ⟨ng (hlt b hb), fun x c e => (hf b hb).2.2.2.2.1 x c (bE _ _ (fun _ _ z => by simp at z) x c e)⟩
 bs := I.bs
 bsz := Nat.le_trans I.ok.bsz I.sz
 noex := fun b o e hb => by
  rcases (hf b hb).2.2.2.1 with z | z
  ·exact I.ok.noex b o e z
  ·exact absurd (Nat.lt_of_lt_of_le (Heap.lt_size e) (Nat.le_trans I.ok.bsz z)) (Nat.lt_irrefl _)
 exfs := fun b hb z => by
  rcases List.mem_cons.mp (I.stkSub b z) with e | e
  ·exact (hf b hb).2.1 e
  ·exact (hf b hb).2.2.1 e
 funs := I.stack
 frf := I.stkFree
theorem Inv.compStart {h1 : Heap} {tk : Nat} (I : Inv X pins σ H s) (L : dL X.N X.env.scope scope own ix) (hf : ∀ b ∈ fp, iE X pins H b) (hlt : ∀ b ∈ fp, b < s.heap.objs.size)
  (k : ∀ b o, s.heap.get? b = some o -> h1.get? b = some o) {m : Str -> Option Value} (hn : h1.Ns (s.heap.objs.size + 1) m) :
  Inv (X.comp (lcN X.N own ix) scope fp s H) [] (dO own.length ix σ) H { s with heap := h1, toks := tk } := by
 have sub := fun x c => bE (env := X.env) scope.names [] (fun _ _ z => by simp at z) x c
 refine ⟨I.compOk L hf hlt, rfl, I.bare, Un.kept k, ⟨m, hn, fun i x v e1 e2 e3 => ?_⟩, fun x c e => ?_, I.hok.fresh (Nat.le_succ _), fun x c e => I.freeC x c (sub x c e), fun p hp => absurd (show p ∈ ([] : List (Addr × Obj)) from hp) (by simp), I.hok.kept k, ?_⟩
 ·obtain ⟨i', j, rfl, hj, hv⟩ := jl e2
  have e1' : (lcN X.N own ix)[own.length + i']? = some x := e1
  unfold lcN at e1'
  rw [List.getElem?_append_right (Nat.le_add_right _ _), Nat.add_sub_cancel_left] at e1'
  obtain ⟨j', hj', hN⟩ := fq L.inN e1'
  rw [hj] at hj'
  cases hj'
  have hjm : j ∈ ix := List.mem_of_getElem? hj
  obtain ⟨hmem, hlk⟩ := L.cap j hjm x hN
  have hkind := L.free _ hmem rfl
  obtain ⟨m0, hn0, hl0⟩ := I.loc
  obtain ⟨u, r, l⟩ := hl0 j x v hN hv (by rcases hkind with z | z; exact .inr (.inl z); exact .inr (.inr z))
  refine ⟨u, r, .inr ⟨?_, ?_⟩⟩
  ·exact cZ (env := X.env) hlk
  ·rcases l with ⟨kl, _⟩ | ⟨_, c, hc, hcell⟩
   ·have kl' : X.env.scope.names.lookup x = some .local := kl
    rcases hkind with z | z
    ·rw [kl'] at z; cases z
    ·rw [kl'] at z; cases z
   ·obtain ⟨c', hc'⟩ := db (env := X.env) ⟨c, hc⟩ scope.names [] hmem
    have : c' = c := by
     have q := sub x c' hc'
     rw [hc] at q
     exact (Option.some.inj q).symm
    subst this
    obtain ⟨o, ho, hd⟩ := hcell
    exact ⟨c', hc', o, k _ _ ho, hd⟩
 ·obtain ⟨v, o, ho, hd⟩ := I.cell x c (sub x c e)
  exact ⟨v, o, k _ _ ho, hd⟩
 ·show (dO own.length ix σ).length = (lcN X.N own ix).length
  rw [um L.inN]
  unfold dO
  rw [List.length_append, List.length_replicate, List.length_map]
def GW (k : Nat) (g : TG) : Prop := ∀ x (σ : St) H (Q : St -> Hp -> Prop), g x σ H Q -> g x σ H fun σ2 H2 => Q σ2 H2 /\ σ2.length = σ.length /\ ∀ j, k <= j -> σ2[j]? = σ[j]?
theorem cz {k i : Nat} (h : i < k) : GW k (dU i) := fun x σ H Q q => ⟨q, by simp, fun j hj => by rw [List.getElem?_set_ne (by omega)]⟩
def GWs (k : Nat) (g : TGs) : Prop := ∀ x (σ : St) H (Q : St -> Hp -> Prop), g x σ H Q -> g x σ H fun σ2 H2 => Q σ2 H2 /\ σ2.length = σ.length /\ ∀ j, k <= j -> σ2[j]? = σ[j]?
def GM (g : TG) : Prop := ∀ x (σ : St) H (Q Q' : St -> Hp -> Prop), (∀ s h, Q s h -> Q' s h) -> g x σ H Q -> g x σ H Q'
theorem kK {i : Nat} : GM (dU i) := fun _ _ _ _ _ h q => h _ _ q
theorem uK {k : Nat} : GWs k qc := fun x σ H Q q => ⟨q.1, q.2, rfl, fun _ _ => rfl⟩
theorem mD {k : Nat} {t : TG} {u : TGs} (ht : GW k t) (hu : GWs k u) (mt : GM t) (mu : ∀ x (σ : St) H (Q Q' : St -> Hp -> Prop), (∀ s h, Q s h -> Q' s h) -> u x σ H Q -> u x σ H Q') : GWs k (gW t u) := fun x σ H Q q => by
 obtain ⟨v, r, e, q⟩ := q
 refine ⟨v, r, e, mt _ _ _ _ _ ?_ (ht _ _ _ _ q)⟩
 rintro σ1 H1 ⟨q1, l1, j1⟩
 refine mu _ _ _ _ _ ?_ (hu _ _ _ _ q1)
 rintro σ2 H2 ⟨q2, l2, j2⟩
 exact ⟨q2, l2.trans l1, fun j hj => (j2 j hj).trans (j1 j hj)⟩
theorem pj : ∀ x (σ : St) H (Q Q' : St -> Hp -> Prop), (∀ s h, Q s h -> Q' s h) -> qc x σ H Q -> qc x σ H Q' := fun _ _ _ _ _ h q => ⟨q.1, h _ _ q.2⟩
theorem tL {t : TG} {u : TGs} (mt : GM t) (mu : ∀ x (σ : St) H (Q Q' : St -> Hp -> Prop), (∀ s h, Q s h -> Q' s h) -> u x σ H Q -> u x σ H Q') : ∀ x (σ : St) H (Q Q' : St -> Hp -> Prop), (∀ s h, Q s h -> Q' s h) -> gW t u x σ H Q -> gW t u x σ H Q' :=
 fun _ _ _ _ _ h ⟨v, r, e, q⟩ => ⟨v, r, e, mt _ _ _ _ _ (fun _ _ q1 => mu _ _ _ _ _ h q1) q⟩
theorem vW {k : Nat} {K : PySem.W.Frag} {n : Nat} {t : TGs} (ht : GWs k t) : GW k (uL K n t) := fun x σ H Q q => by
 obtain ⟨a, xs, e, hq, hl, q⟩ := q
 exact ⟨a, xs, e, hq, hl, ht _ _ _ _ q⟩
theorem ou {K : PySem.W.Frag} {i j k : Nat} (hi : i < k) (hj : j < k) : GW k (uL K 2 (gW (dU i) (gW (dU j) qc))) :=
 vW (mD (cz hi) (mD (cz hj) uK kK pj) kK (tL kK pj))
def PIf (X : Cx) (ifs : List Expr) (t : TT) : Prop :=
 ∀ (pins : List (Addr × Obj)) (s : Shared) (σ : St) (H : Hp) (Q : Bool -> Hp -> Prop), Inv X pins σ H s -> t σ H Q ->
  wpAny (model X.prog X.w) X.A (forIn ifs true fun c r => if r = true then do let ok <- isTrue c X.env (eval c X.env); pure (ForInStep.yield ok) else pure (ForInStep.yield r)) (TP X pins σ Q) X.xe s
def vR : TT := fun _ H Q => Q true H
theorem cx : PIf X [] vR := fun _ _ _ H _ I h => wpAny_tests_nil ⟨H, I, h⟩
theorem uw {c : Expr} {t : TT} (h : PT X c t) : PIf X [c] t := fun pins s σ H Q I q => wpAny_tests_one (h pins s σ H Q I q)
def rLC (J : It) (k : Nat) (ix : List Nat) (g : TG) (tt : TT) (te : TE) (σ : St) (H1 : Hp) (Q : List V -> Hp -> Prop) : Prop :=
 ∃ W : Nat -> Nat -> List V -> Hp -> Prop, (∃ m, W 0 m [] H1) /\ ∀ i m ys H, W i m ys H ->
  (J.stop i H /\ Q ys H) \/
  (J.go i H /\ ∃ N : List V -> Hp -> Prop, (∀ ys' H', N ys' H' -> ∃ m', m' < m /\ W (i + 1) m' ys' H') /\ ∀ x H', J.yld i H x H' -> g x (dO k ix σ) H' fun σ2 H2 => tt σ2 H2 fun c H3 =>
   if c = true then te σ2 H3 fun y H4 => ys.length < sizeLine /\ N (ys ++ [y]) H4
   else N ys H3)
theorem mH {elt tg iter : Expr} {ifs : List Expr} {pos : Pos} {it : Addr} {tn : Nat -> Heap -> Prop} {J : It} {g : TG} {tt : TT} {te : TE} {E : Value -> Shared -> Prop} {Qf : List V -> Hp -> Prop} {RR : Value -> Addr -> Result -> Shared -> Prop}
  (L : dL X.N X.env.scope scope own ix) (hc : X.calm = true) (hg : ∀ fp s H, PG (X.comp (lcN X.N own ix) scope fp s H) tg g) (gw : GW own.length g)
  (ht : ∀ fp s H, PIf (X.comp (lcN X.N own ix) scope fp s H) ifs tt) (he : ∀ fp s H, PE (X.comp (lcN X.N own ix) scope fp s H) elt te)
  (I : Inv X pins σ H s) (T : ja X.prog X.w X.K tg J fp it tn) (st : tn 0 s.heap) (hf : ∀ b ∈ fp, iE X pins H b)
  (hw : rLC J own.length ix g tt te σ H Qf)
  (hRR : ∀ (D C : Addr) (s' : Shared) (ys : List V) (H' : Hp) (m : Str -> Option Value), s'.heap.Ns C m -> C ≠ X.env.locals -> (∀ x c, X.env.cells.lookup x = some c -> c ≠ C) -> X.s₀.heap.objs.size <= C -> (∀ p ∈ X.pn ++ pins, p.1 ≠ C) -> upd H' D (.lst ys) C = none -> H' D = none ->
   Inv X pins σ (upd H' D (.lst ys)) s' -> Qf ys H' -> RR (.ref D) C (.ok .next) s') :
  wpAny (model X.prog X.w) X.A (newList []) (fun acc s₃ => wpAny (model X.prog X.w) X.A (newFunctionEnv scope X.env.globals (bh X.env scope.names []) [] X.env.qual none .none (some X.env)) (fun cenv s₄ =>
   codeAny (model X.prog X.w) X.A (.compStart (.ListComp elt [⟨tg, iter, ifs, 0⟩] scope pos) 0 (.ref it) acc { cenv with scope := relabel scope X.env }) (RR acc cenv.locals) s₄) E s₃) E s := by
 obtain ⟨W, ⟨m0, w0⟩, turn⟩ := hw
 have hlt : ∀ b ∈ fp, b < s.heap.objs.size := fun b hb => by
  obtain ⟨o, e, _⟩ := T.obj 0 s.heap st b hb
  exact Heap.lt_size e
 refine wpAny_newObj_type (wpAny_newFunctionEnv L.nocell (by intro y hy; simp at hy) (fun h₁ hns₁ hsb₁ => ?_) L.kind)
 dsimp only at hns₁ hsb₁ ⊢
 generalize hH2 : s.heap.push { cls := .type "list", dict := none, data := .seq ([] : List Value).toArray } = h2 at hns₁ hsb₁ ⊢
 have hC : h2.objs.size = s.heap.objs.size + 1 := by rw [<- hH2, Heap.size_push]
 have old : ∀ b o, s.heap.get? b = some o -> h₁.get? b = some o := fun b o e => by
  exact hsb₁.extBut b o (by rw [hC]; exact ng (Heap.lt_size e)) (Heap.get?_push_of_some _ (hH2 ▸ Heap.get?_push_of_some _ e))
 have hacc : h₁.PlainList s.heap.objs.size #[] := ⟨_, hsb₁.extBut _ _ (by rw [hC]; exact nss _) (Heap.get?_push_of_some _ (hH2 ▸ Heap.get?_push_size _ rfl))⟩
 have hD0 : H s.heap.objs.size = none := I.hok.fresh (Nat.le_refl _)
 rw [hC] at hns₁
 have I0 := I.compStart (tk := s.toks + ([] : List (Str × Value)).length) L hf hlt old hns₁
 have sub := fun x c => bE (env := X.env) scope.names [] (fun _ _ z => by simp at z) x c
 have cellLt : ∀ x c, X.env.cells.lookup x = some c -> c < s.heap.objs.size := fun x c e => by
  obtain ⟨v, q⟩ := I.cell x c e
  exact q.lt
 have stkLt : ∀ b ∈ frs X.stack, b < s.heap.objs.size := fun b hb => by
  obtain ⟨_, o, ho, _⟩ := I.stack.mem hb
  exact Heap.lt_size ho
 have env_eq : ({ newEnv scope h2.objs.size X.env.globals (bh X.env scope.names []) X.env.qual none .none (some X.env) builtinsNs with scope := relabel scope X.env } : Env) = (X.comp (lcN X.N own ix) scope fp s H).env := by
  show compEnvC scope (bh X.env scope.names []) h2.objs.size X.env = compEnvC scope (bh X.env scope.names []) (s.heap.objs.size + 1) X.env
  rw [hC]
 have loop : codeAny (model X.prog X.w) X.A (.compLoop (.ListComp elt [⟨tg, iter, ifs, 0⟩] scope pos) 0 (.ref it) (.ref s.heap.objs.size) (X.comp (lcN X.N own ix) scope fp s H).env) (RR (.ref s.heap.objs.size) (s.heap.objs.size + 1))
   { s with heap := h₁, toks := s.toks + ([] : List (Str × Value)).length } := by
  refine uv (fun n s' => ∃ i ys H', Inv (X.comp (lcN X.N own ix) scope fp s H) [] (dO own.length ix σ) H' s' /\ tn i s'.heap /\ (∀ b ∈ fp, H' b = none) /\ H' s.heap.objs.size = none /\
   (∃ its : List Value, aL ys its /\ s'.heap.PlainList s.heap.objs.size its.toArray) /\ ys.length <= sizeLine /\ W i n ys H') ?_ m0
   ⟨0, [], H, I0, T.keep _ _ _ st (fun b _ o e => old b o e), fun b hb => (hf b hb).1, hD0, ⟨[], .nil, hacc⟩, Nat.zero_le _, w0⟩
  rintro n s3 ⟨i, ys, H3, I3, st3, fr3, d3, ⟨its, rv, n3, hp3⟩, hz, w3⟩
  have Ip := I3.pins_of (pins' := [(s.heap.objs.size, { cls := .type "list", data := .seq its.toArray n3 })]) (fun p hp => by
   have e : p = (s.heap.objs.size, { cls := .type "list", data := .seq its.toArray n3 }) := by simpa using hp
   subst e
   exact ⟨hp3, d3, nss _, fun z => absurd (stkLt _ z) (Nat.lt_irrefl _), fun v z => by cases z⟩)
  have stat : ∀ {H' : Hp}, (∀ b ∈ fp, H' b = none) -> ∀ b ∈ fp, iE (X.comp (lcN X.N own ix) scope fp s H) [(s.heap.objs.size, { cls := .type "list", data := .seq its.toArray n3 })] H' b := fun hn b hb =>
   ⟨hn b hb, ng (hlt b hb), I3.ok.exfs b hb, .inl hb, fun x c e => (I3.ok.exf b hb).2 x c e, fun p hp => by
    have e : p = (s.heap.objs.size, { cls := .type "list", data := .seq its.toArray n3 }) := by simpa using (show p ∈ ([] : List (Addr × Obj)) ++ [(s.heap.objs.size, { cls := .type "list", data := .seq its.toArray n3 })] from hp)
    subst e
    exact ngt (hlt b hb)⟩
  rcases turn i n ys H3 w3 with ⟨stop, qf⟩ | ⟨go, N, hN, step⟩
  ·refine thn (T.done (X.comp (lcN X.N own ix) scope fp s H) rfl rfl rfl hc i _ s3 _ H3 _ Ip (stat fr3) st3 stop) fun r s4 ⟨hr, I4⟩ => ?_
   subst hr
   obtain ⟨e4, d4, _⟩ := I4.pin (s.heap.objs.size, { cls := .type "list", data := .seq its.toArray n3 }) (List.mem_append_right _ List.mem_cons_self)
   obtain ⟨mC, hnC, _⟩ := I4.loc
   have hok : HOk X.prog X.w (upd H3 s.heap.objs.size (.lst ys)) s4.heap := fun b u e => by
    by_cases hb : b = s.heap.objs.size
    ·subst hb
     rw [ad] at e
     cases e
     exact ⟨hz, its, n3, rv, e4⟩
    ·rw [aE hb] at e
     exact (I4.hok b u e).stay (fun c v _ q => q) (fun c q => by rw [aE (am q d4)]; exact q) fun c xs q => by rw [aE (am q d4)]; exact q
   have ub := I4.base
   have un : Un (frs X.stack) fp H (upd H3 s.heap.objs.size (.lst ys)) s.heap s4.heap :=
    ⟨ub.keep, ub.slot, fun b o e n hx => by rw [aE (Nat.ne_of_lt (Heap.lt_size e))]; exact ub.free b o e n hx, ub.there,
     fun b xs e => by rw [aE (am (ub.tups b xs e) d4)]; exact ub.tups b xs e, fun b o u e => by rw [aE (am (ub.frzs b o u e) d4)]; exact ub.frzs b o u e,
     fun b ps e => by
      obtain ⟨more, q⟩ := ub.tbls b ps e
      exact ⟨more, by rw [aE (am q d4)]; exact q⟩⟩
   have I5 : Inv X pins σ (upd H3 s.heap.objs.size (.lst ys)) s4 := I.call' I4.os un hok I4.bare fun b hb => by
    obtain ⟨f0, f1, f2, f3, f4, f5⟩ := hf b hb
    exact ⟨f3, f1, f4, f5⟩
   refine hRR _ _ s4 ys H3 mC hnC ?_ ?_ ?_ ?_ ?_ d4 I5 qf
   ·exact yr I.lt
   ·intro x c e
    exact ng (cellLt x c e)
   ·exact Nat.le_trans I.sz (Nat.le_succ _)
   ·intro p hp
    exact ng (Heap.lt_size (I.pin p hp).1)
   ·rw [aE (xN _)]
    exact I4.free
  ·refine thn (T.item (X.comp (lcN X.N own ix) scope fp s H) rfl rfl rfl hc i _ s3 _ H3 _ Ip (stat fr3) st3 go) fun r s4 ⟨u, hr, h4⟩ => ?_
   subst hr
   refine thn h4 fun _ s5 ⟨x, H5, I5, r5, y5, st5, fr5⟩ => ?_
   have I5' := I5.pinned (stat fr5) (T.obj _ _ st5)
   refine thn (hg fp s H _ s5 _ H5 x u _ I5' r5 (gw _ _ _ _ (step x H5 y5))) fun _ s6 ⟨σ6, H6, I6, q6, l6, k6⟩ => ?_
   refine thn (ht fp s H _ s6 σ6 H6 _ I6 q6) fun c s7 ⟨H7, I7, q7⟩ => ?_
   have again : ∀ {s8 : Shared} {H8 : Hp}, Inv (X.comp (lcN X.N own ix) scope fp s H) ([(s.heap.objs.size, { cls := .type "list", data := .seq its.toArray n3 })] ++ iw fp s5.heap) σ6 H8 s8 ->
     Inv (X.comp (lcN X.N own ix) scope fp s H) [] (dO own.length ix σ) H8 s8 /\ tn (i + 1) s8.heap /\ (∀ b ∈ fp, H8 b = none) /\ H8 s.heap.objs.size = none /\ s8.heap.get? s.heap.objs.size = some { cls := .type "list", data := .seq its.toArray n3 } := fun {s8 H8} I8 => by
    obtain ⟨e8, d8, _⟩ := I8.pin (s.heap.objs.size, { cls := .type "list", data := .seq its.toArray n3 }) (List.mem_append_right _ (List.mem_append_left _ List.mem_cons_self))
    refine ⟨(I8.pins_of (pins' := []) fun p hp => by cases hp).weak l6.symm fun j v e => ?_, T.keep _ _ _ st5 fun b hb o e => (I8.pin (b, o) (List.mem_append_right _ (List.mem_append_right _ (eA hb e)))).1, fun b hb => ?_, d8, e8⟩
    ·obtain ⟨i', j', rfl, _, _⟩ := jl e
     rw [k6 _ (Nat.le_add_right _ _)]
     exact e
    ·obtain ⟨o, e, d⟩ := T.obj _ _ st5 b hb
     exact (I8.pin (b, o) (List.mem_append_right _ (List.mem_append_right _ (eA hb e)))).2.1
   cases c with
   | false =>
    rw [if_neg Bool.false_ne_true] at q7 ⊢
    obtain ⟨m', hm, w7⟩ := hN _ _ q7
    obtain ⟨a1, a2, a3, a4, a5⟩ := again I7
    exact ⟨m', hm, i + 1, ys, H7, a1, a2, a3, a4, ⟨its, rv, n3, a5⟩, hz, w7⟩
   | true =>
    rw [if_pos rfl] at q7 ⊢
    refine thn (he fp s H _ s7 σ6 H7 _ I7 q7) fun v s8 ⟨y, H8, I8, r8, hz8, q8⟩ => ?_
    obtain ⟨m', hm, w8⟩ := hN _ _ q8
    obtain ⟨a1, a2, a3, a4, a5⟩ := again I8
    refine wpAny_list_append_plain (s := s8) (l := s.heap.objs.size) (items := its.toArray) ⟨n3, a5⟩ (fun h9 hl9 hs9 => ?_) (by have := rv.length; simp; omega)
    have I9 : Inv (X.comp (lcN X.N own ix) scope fp s H) [] (dO own.length ix σ) H8 { s8 with heap := h9 } := a1.turned (t' := s8.toks) (it := s.heap.objs.size) (fun b o hb e => hs9.extBut b o hb e) a4 (nss _)
     (.inr (Nat.le_refl _)) (fun x c e => nlt (cellLt x c (sub x c e))) (fun p hp => absurd (show p ∈ ([] : List (Addr × Obj)) from hp) (by simp))
    refine ⟨m', hm, i + 1, ys ++ [y], H8, I9, T.keep _ _ _ a2 (fun b hb o e => hs9.extBut b o (nlt (hlt b hb)) e), a3, a4, ⟨its ++ [v], aL.append rv (.cons r8 .nil), ?_⟩, ?_, w8⟩
    ·have e : (its ++ [v]).toArray = its.toArray.push v := by simp
     rw [e]
     exact hl9
    ·rw [List.length_append]
     show _ + 1 <= _
     omega
 show codeAny _ _ (.compStart _ 0 (.ref it) (.ref s.heap.objs.size) _) (RR (.ref s.heap.objs.size) h2.objs.size) _
 rw [hC]
 have e2 := env_eq
 rw [hC] at e2
 refine Eq.mpr (congrArg (fun e => codeAny (model X.prog X.w) X.A (.compStart (.ListComp elt [⟨tg, iter, ifs, 0⟩] scope pos) 0 (.ref it) (.ref s.heap.objs.size) e) (RR (.ref s.heap.objs.size) (s.heap.objs.size + 1)) { s with heap := h₁, toks := s.toks + ([] : List (Str × Value)).length }) e2) ?_
 exact codeAny_compStart_list loop (T.self X.A 0 _ _ _ (T.keep _ _ _ st fun b _ o e => old b o e) loop)
end
section
variable {X : Cx} {scope : Scope} {own : List Str} {ix : List Nat}
def tLC (wi : TI) (k : Nat) (ix : List Nat) (g : TG) (tt : TT) (te : TE) : TE := fun σ H Q => wi σ H fun J H1 => rLC J k ix g tt te σ H1 fun ys H' => ∀ a, H' a = none -> Q (.ref a) (upd H' a (.lst ys))
theorem Inv.clos {pins : List (Addr × Obj)} {σ : St} {H : Hp} {s : Shared} (I : Inv X pins σ H s) (L : dL X.N X.env.scope scope own ix) : closureFor scope X.env = pure (bh X.env scope.names []) :=
 lF fun x hx hf => I.ok.has x.1 (L.free x hx hf)
theorem ga {elt tg iter : Expr} {ifs : List Expr} {pos : Pos} {wi : TI} {g : TG} {tt : TT} {te : TE} (hi : PI X tg iter wi) (L : dL X.N X.env.scope scope own ix) (hc : X.calm = true)
  (hg : ∀ fp s H, PG (X.comp (lcN X.N own ix) scope fp s H) tg g) (gw : GW own.length g) (ht : ∀ fp s H, PIf (X.comp (lcN X.N own ix) scope fp s H) ifs tt) (he : ∀ fp s H, PE (X.comp (lcN X.N own ix) scope fp s H) elt te)
  (hs : ∀ x, foldedSetIterable iter X.env x = pure x := by intro _; rfl) : PE X (.ListComp elt [⟨tg, iter, ifs, 0⟩] scope pos) (tLC wi own.length ix g tt te) := by
 intro pins s σ H Q I h
 rw [eval_ListComp]
 refine wpAny_comprehension_free (use := none) rfl hs (I.clos L) L.kind L.names (thn (hi pins s σ H _ I h) fun v s1 h1 => thn h1 fun itv s2 h2 => ?_)
 obtain ⟨it, fp, tn, J, H2, e, I2, T, st2, f2, hw⟩ := h2
 subst e
 refine mH (RR := fun acc C => compPost (model X.prog X.w) X.A X.xe none (EP X pins σ Q) acc C) L hc hg gw ht he I2 T st2 f2 hw ?_
 intro D C s' ys H' m hn c1 c2 c3 c4 c5 d I' q
 exact ⟨m, hn, fun h' hs' => ⟨.ref D, _, I'.turned (t' := s'.toks) (it := C) (fun b o hb e => hs'.extBut b o hb e) c5 c1 (.inr c3) c2 c4, rfl, q D d⟩⟩
theorem sk {elt tg iter : Expr} {ifs : List Expr} {pos spos py : Pos} {wi : TI} {g : TG} {tt : TT} {te : TE} {i : Nat} {y : Str} (hN : X.N.Nodup) (hy : X.N[i]? = some y) (hx : X.env.scope.names.lookup y = some .local) (hi : PI X tg iter wi) (L : dL X.N X.env.scope scope own ix) (hc : X.calm = true)
  (hg : ∀ fp s H, PG (X.comp (lcN X.N own ix) scope fp s H) tg g) (gw : GW own.length g) (ht : ∀ fp s H, PIf (X.comp (lcN X.N own ix) scope fp s H) ifs tt) (he : ∀ fp s H, PE (X.comp (lcN X.N own ix) scope fp s H) elt te)
  (hsw : swapsWith (.ListComp elt [⟨tg, iter, ifs, 0⟩] scope pos) (some (.Name y py)) spos.line X.env = pure true := by rfl)
  (hs : ∀ x, foldedSetIterable iter X.env x = pure x := by intro _; rfl) : PS X (.Assign [.Name y py] (.ListComp elt [⟨tg, iter, ifs, 0⟩] scope pos) spos) (uy (tLC wi own.length ix g tt te) (dU i)) := by
 intro pins s σ H Dn I h
 rw [exec_Assign_Name_used _ _ _ _ hsw]
 refine wpAny_bind (wpAny_standAt (wpAny_bind ?_))
 show wpAny _ X.A (do let _ <- comprehension (.ListComp elt [⟨tg, iter, ifs, 0⟩] scope pos) scope X.env _ (newList []) false (eval iter X.env) (some (assign (.Name y py) X.env))) _ _ s
 refine wpAny_bind (thn (wpAny_comprehension_free (use := some (assign (.Name y py) X.env)) (Q := fun _ s' => SP X pins Dn .next s') rfl hs (I.clos L) L.kind L.names
  (thn (hi pins s σ H _ I h) fun v s1 h1 => thn h1 fun itv s2 h2 => ?_)) fun _ s' hq => wpAny_pure (wpAny_pure hq))
 obtain ⟨it, fp, tn, J, H2, e, I2, T, st2, f2, hw⟩ := h2
 subst e
 refine mH (RR := fun acc C => compPost (model X.prog X.w) X.A X.xe (some (assign (.Name y py) X.env)) (fun _ s' => SP X pins Dn .next s') acc C) L hc hg gw ht he I2 T st2 f2 hw ?_
 intro D C s' ys H' m hn c1 c2 c3 c4 c5 d I' q
 show wpAny _ X.A (assign (.Name y py) X.env (.ref D)) _ _ s'
 refine wpAny_assign_Name (jx I' hN hy (.inl hx) (v := .ref D) rfl (fun s2 I2 ⟨a, hs2, ha⟩ => ?_) (.inr hx))
 have aC : a ≠ C := by
  rcases ha with rfl | ha
  ·exact Ne.symm c1
  ·exact c2 y a ha
 refine ⟨m, hn.sameBut hs2 (Ne.symm aC), fun h' hs' => ?_⟩
 exact ⟨_, _, I2.turned (t' := s2.toks) (it := C) (fun b o hb e => hs'.extBut b o hb e) c5 c1 (.inr c3) c2 c4, q D d⟩
end
section
variable {k : Nat} {ix : List Nat} {g : TG} {tt : TT} {te : TE} {σ : St} {H1 : Hp} {Q : List V -> Hp -> Prop}
def dQ (k : Nat) (ix : List Nat) (g : TG) (tt : TT) (te : TE) (σ : St) (x : V) (ys : List V) (H : Hp) (N : List V -> Hp -> Prop) : Prop :=
 g x (dO k ix σ) H fun σ2 H2 => tt σ2 H2 fun c H3 => if c = true then te σ2 H3 fun y H4 => ys.length < sizeLine /\ N (ys ++ [y]) H4 else N ys H3
theorem oO {J : It} {n : Nat} (Pv : Nat -> List V -> Hp -> Prop) (h0 : Pv 0 [] H1) (hgo : ∀ i ys H, i < n -> Pv i ys H -> J.go i H) (hst : ∀ ys H, Pv n ys H -> J.stop n H)
  (hs : ∀ i ys H x H', i < n -> Pv i ys H -> J.yld i H x H' -> dQ k ix g tt te σ x ys H' (Pv (i + 1))) (hd : ∀ ys H, Pv n ys H -> Q ys H) : rLC J k ix g tt te σ H1 Q := by
 refine ⟨fun i m ys H => m = n - i /\ i <= n /\ Pv i ys H, ⟨n, by simp, Nat.zero_le _, h0⟩, ?_⟩
 rintro i m ys H ⟨rfl, hi, p⟩
 by_cases hlt : i < n
 ·exact .inr ⟨hgo i ys H hlt p, Pv (i + 1), fun ys' H' q => ⟨n - (i + 1), by omega, rfl, hlt, q⟩, fun x H' y => hs i ys H x H' hlt p y⟩
 ·have e : i = n := by omega
  subst e
  exact .inl ⟨hst ys H p, hd ys H p⟩
theorem sR {lo : Int} {n : Nat} (Pv : Nat -> List V -> Hp -> Prop) (h0 : Pv 0 [] H1) (hs : ∀ i ys H, i < n -> Pv i ys H -> dQ k ix g tt te σ (.int (lo + i)) ys H (Pv (i + 1)))
  (hd : ∀ ys H, Pv n ys H -> Q ys H) : rLC (Itr lo n) k ix g tt te σ H1 Q :=
 oO (n := n) Pv h0 (fun i _ _ h _ => h) (fun _ _ _ => Nat.le_refl _) (fun i ys H x H' h p y => by
  obtain ⟨e, y⟩ := y
  subst e y
  exact hs i ys _ h p) hd
theorem pf {K : PySem.W.Frag} {a : Addr} {xs : List V} (Pv : Nat -> List V -> Hp -> Prop) (h0 : Pv 0 [] H1) (hl : ∀ i ys H, i <= xs.length -> Pv i ys H -> SqL K H a xs)
  (hs : ∀ i ys H x, xs[i]? = some x -> Pv i ys H -> dQ k ix g tt te σ x ys H (Pv (i + 1))) (hd : ∀ ys H, Pv xs.length ys H -> Q ys H) : rLC (Itl K a) k ix g tt te σ H1 Q :=
 oO (n := xs.length) Pv h0 (fun i ys H h p => ⟨xs, xs[i], hl i ys H (Nat.le_of_lt h) p, by simp [h]⟩) (fun ys H p => ⟨xs, hl _ ys H (Nat.le_refl _) p, Nat.le_refl _⟩) (fun i ys H x H' h p y => by
  obtain ⟨e, y⟩ := y
  subst e
  exact hs i ys _ x (y xs (hl i ys _ (Nat.le_of_lt h) p)) p) hd
theorem gp {K : PySem.W.Frag} {a : Addr} {xs : List V} (Pv : Nat -> List V -> Hp -> Prop) (h0 : Pv 0 [] H1) (hl : ∀ i ys H, i <= xs.length -> Pv i ys H -> SqT K H a xs)
  (hs : ∀ i ys H x, xs[i]? = some x -> Pv i ys H -> dQ k ix g tt te σ x ys H (Pv (i + 1))) (hd : ∀ ys H, Pv xs.length ys H -> Q ys H) : rLC (Itt K a) k ix g tt te σ H1 Q :=
 oO (n := xs.length) Pv h0 (fun i ys H h p => ⟨xs, xs[i], hl i ys H (Nat.le_of_lt h) p, by simp [h]⟩) (fun ys H p => ⟨xs, hl _ ys H (Nat.le_refl _) p, Nat.le_refl _⟩) (fun i ys H x H' h p y => by
  obtain ⟨e, y⟩ := y
  subst e
  exact hs i ys _ x (y xs (hl i ys _ (Nat.le_of_lt h) p)) p) hd
end
def Itf (f : Nat -> V) (n : Nat) : It := ⟨fun i _ => i < n, fun i H x H' => H' = H /\ x = f i, fun i _ => i = n⟩
theorem fF {P : Program} {w : World} {K : PySem.W.Frag} {tg : Expr} {it : Addr} {n : Nat} {Pv : Nat -> Value -> Prop} {tn : Nat -> Heap -> Prop} {f : Nat -> V}
  (W : ∀ A : Around, A.handled = none -> Walks P w A it [it] [it] n Pv tn) (ob : ∀ i h, tn i h -> ∃ o nm vs, h.get? it = some o /\ o.cls = .type nm /\ o.data = .fields vs /\ ["enumerate", "zip", "dict_itemiterator", "dict_reverseitemiterator", "odict_iterator", "itertools.zip_longest", "itertools.pairwise"].contains nm = false)
  (rel : ∀ i v, Pv i v -> aQ (f i) v) (hself : ∀ (A : Around) (i : Nat) (s : Shared) (Q : Value -> Shared -> Prop) (E : Value -> Shared -> Prop), tn i s.heap -> Q (.ref it) s -> wpAny (model P w) A (pyIter (.ref it)) Q E s) : ja P w K tg (Itf f n) [it] it tn where
 mem := by simp
 obj := fun i h st b hb => by
  have e : b = it := by simpa using hb
  subst e
  obtain ⟨o, nm, vs, e, _, d, _⟩ := ob i h st
  exact ⟨o, e, fun v z => by rw [d] at z; cases z⟩
 keep := fun i h h' st k => by
  by_cases hA : ∃ A : Around, A.handled = none
  ·obtain ⟨A, hA⟩ := hA
   exact (W A hA).frame i h h' st k
  ·exact absurd ⟨callerA, rfl⟩ hA
 item := by
  intro X hP hw hK hc i pins s σ H E I hf st hg
  subst hP hw hK
  obtain ⟨f0, f1, f2, f3, f4, f5⟩ := hf it (by simp)
  refine (W X.A (I.ok.hd hc)).item i s _ _ hg st fun v h' tk hv st' kk => ?_
  have I1 : Inv X pins σ H { s with heap := h', toks := tk } := I.turned (fun b o hb e => kk b o (by simpa using hb) e) f0 f1 f3 f4 f5
  obtain ⟨o, nm, vs, e, c, d, hn⟩ := ob _ _ st'
  exact ⟨v, rfl, oX (s := { s with heap := h', toks := tk }) e c d hn ⟨f i, H, I1, rel i v hv, ⟨rfl, rfl⟩, st', fun b hb => (hf b hb).1⟩⟩
 done := by
  intro X hP hw hK hc i pins s σ H E I hf st hg
  subst hP hw hK
  obtain ⟨f0, f1, f2, f3, f4, f5⟩ := hf it (by simp)
  have e : i = n := hg
  subst e
  exact (W X.A (I.ok.hd hc)).done s _ _ st fun h' tk kk => ⟨rfl, I.turned (fun b o hb e => kk b o (by simpa using hb) e) f0 f1 f3 f4 f5⟩
 self := hself
theorem eJ {i j c : Int} (q1 : 0 < c) (q3 : -1000000 <= i) (q4 : i < 1000000) (q5 : -1000000 <= j) (q6 : j < 1000000) : 0 <= Builtin.Range.rangeSize i j c /\ Builtin.Range.rangeSize i j c <= 2000000 := by
 unfold Builtin.Range.rangeSize
 rw [if_pos (show c > 0 from q1)]
 by_cases h : i < j
 ·rw [if_pos h]
  have h1 : 0 <= (j - i - 1) / c := Int.ediv_nonneg (by omega) (by omega)
  have h2 : (j - i - 1) / c <= j - i - 1 := Int.ediv_le_self _ (by omega)
  omega
 ·rw [if_neg h]; omega
theorem mk {i j c : Int} (q1 : 0 < c) (q2 : c < 1000) (q3 : -1000000 <= i) (q4 : i < 1000000) (q5 : -1000000 <= j) (q6 : j < 1000000) : Builtin.Range.small i j c = true := by
 obtain ⟨h1, h2⟩ := eJ q1 q3 q4 q5 q6
 unfold Builtin.Range.small
 simp only [Builtin.Range.rangeFitsLong, Bool.and_eq_true, Bool.or_eq_true, decide_eq_true_eq, beq_iff_eq, show c > 0 from q1, if_true]
 omega
section
variable {X : Cx} {tg : Expr}
theorem Inv.fp1 {pins : List (Addr × Obj)} {σ : St} {H : Hp} {s : Shared} (I : Inv X pins σ H s) : ∀ b ∈ [s.heap.objs.size], iE X pins H b := fun b hb => by
 have e : b = s.heap.objs.size := by simpa using hb
 subst e
 exact I.fpOk (Nat.le_refl _) (I.hok.fresh (Nat.le_refl _))
def vh (x : Str) (i : Nat) : V := .str ⟨#[x.cps.getD i 0]⟩
def xZ (ts : TE) : TI := fun σ H R => ts σ H fun x H1 => ∃ z, x = .str z /\ R (Itf (vh z) z.cps.size) H1
theorem vS {e : Expr} {ts : TE} (hl : PE X e ts) : PI X tg e (xZ ts) := by
 intro pins s σ H R I h
 refine thn (hl pins s σ H _ I h) fun v s1 ⟨x, H1, I1, r1, q1⟩ => ?_
 obtain ⟨z, e, q⟩ := q1
 subst e
 obtain ⟨t, rfl⟩ := r1
 have rel : ∀ i v, SignAt z i v -> aQ (vh z i) v := fun i v ⟨c, u, hc, hv⟩ => by
  subst hv
  refine ⟨u, ?_⟩
  have e : z.cps.getD i 0 = c := by rw [Array.getD_eq_getD_getElem?, hc]; rfl
  rw [e]
 cases ha : z.cps.all (· < 128) with
 | false =>
  refine wpAny_pyIter_wide ha ?_
  exact ⟨s1.heap.objs.size, [s1.heap.objs.size], _, _, H1, rfl, I1.kept (t' := s1.toks) fun b o e => Heap.get?_push_of_some _ e,
   fF (fun A hA => Walks.strWide hA _ z t) (fun i h ⟨o, e, c, d⟩ => ⟨o, "str_iterator", _, e, c, d, by decide⟩) rel (fun A i s Q E st hq => wpAny_pyIter_striter_wide st hq), ⟨_, Heap.get?_push_size _ rfl, rfl, rfl⟩, fun b hb => I1.fp1 b hb, q⟩
 | true =>
  refine wpAny_pyIter_ascii ha ?_
  exact ⟨s1.heap.objs.size, [s1.heap.objs.size], _, _, H1, rfl, I1.kept (t' := s1.toks) fun b o e => Heap.get?_push_of_some _ e,
   fF (fun A hA => Walks.strAscii hA _ z t) (fun i h ⟨o, e, c, d⟩ => ⟨o, "str_ascii_iterator", _, e, c, d, by decide⟩) rel (fun A i s Q E st hq => wpAny_pyIter_striter_ascii st hq), ⟨_, Heap.get?_push_size _ rfl, rfl, rfl⟩, fun b hb => I1.fp1 b hb, q⟩
def xg (ta : TA) : TI := fun σ H R => ta σ H fun vs H1 => ∃ i j c : Int, vs = [.int i, .int j, .int c] /\ (0 < c /\ c < 1000 /\ -1000000 <= i /\ i < 1000000 /\ -1000000 <= j /\ j < 1000000) /\ R (Itf (fun k => .int (i + k * c)) (Builtin.Range.rangeSize i j c).toNat) H1
theorem qB {a b c : Expr} {ta : TA} {p pos : Pos} (hg : Gl X "range") (hm : X.mg "range" = none) (ha : PA X [a, b, c] ta) (hs : starEach [a, b, c] X.env = [(false, eval a X.env), (false, eval b X.env), (false, eval c X.env)] := by rfl) (hs2 : starEach [b, c] X.env = [(false, eval b X.env), (false, eval c X.env)] := by rfl) :
  PI X tg (.Call (.Name "range" p) [a, b, c] [] pos) (xg ta) := by
 intro pins s σ H R I h
 refine Call_ (eC I hg hm boot_range (PyProof.Rows.callWith_type1 (thn (ha pos pins s σ H _ I h) fun us s1 ⟨vs, H1, I1, r1, q1⟩ => ?_) (by rw [hs, hs2]) (by rw [hs2]; rfl)))
 obtain ⟨i, j, c, e, ⟨q1, q2, q3, q4, q5, q6⟩, q⟩ := q1
 subst e
 cases r1 with
 | cons r rr =>
  cases rr with
  | cons r' rr =>
   cases rr with
   | cons r'' rr =>
    cases rr
    obtain ⟨t, rfl⟩ := r
    obtain ⟨t', rfl⟩ := r'
    obtain ⟨t'', rfl⟩ := r''
    refine call_range_3 (by omega) ?_ (.inl (PyProof.noPylong_small (by omega)))
    obtain ⟨z0, z1⟩ := eJ q1 q3 q4 q5 q6
    have hsz : (((Builtin.Range.rangeSize i j c).toNat : Nat) : Int) = Builtin.Range.rangeSize i j c := by omega
    refine wpAny_pyIter_range (IsRange.new ..) (mk q1 q2 q3 q4 q5 q6) ?_
    have I2 : Inv X pins σ H1 { s1 with heap := s1.heap.push { cls := .type "range", data := .fields #[.int i t, .int j t', .int c t''] }, toks := s1.toks } := I1.kept fun b o e => Heap.get?_push_of_some _ e
    refine ⟨_, [_], _, _, H1, rfl, I2.kept (t' := s1.toks) fun b o e => Heap.get?_push_of_some _ e, fF (f := fun k => .int (i + k * c)) (fun A hA => Walks.range hA _ i c (Builtin.Range.rangeSize i j c).toNat) (fun k h st => ⟨_, "range_iterator", _, st, rfl, rfl, by decide⟩) (fun k v ⟨t, e⟩ => ⟨t, e⟩) (fun A k s Q E st hq => wpAny_pyIter_rangeiter st hq), ?_, fun b hb => I2.fp1 b hb, q⟩
    show IsRangeIter _ _ (i + ((0 : Nat) : Int) * c) (((Builtin.Range.rangeSize i j c).toNat : Nat) - ((0 : Nat) : Int)) c
    have e1 : i + ((0 : Nat) : Int) * c = i := by simp
    have e2 : (((Builtin.Range.rangeSize i j c).toNat : Nat) : Int) - ((0 : Nat) : Int) = Builtin.Range.rangeSize i j c := by rw [hsz]; simp
    rw [e1, e2]
    exact Heap.get?_push_size _ rfl
theorem KV.at {kvs : List (Key × V)} {vs : List (Key × Value)} (r : KV kvs vs) {i : Nat} {k : Key} {v : Value} (e : vs[i]? = some (k, v)) : ∃ x, kvs[i]? = some (k, x) /\ aQ x v := by
 induction r generalizing i with
 | nil => simp at e
 | @cons p q ps qs h t ih =>
  cases i with
  | zero =>
   have e' : q = (k, v) := by simpa using e
   obtain ⟨p1, p2⟩ := p
   subst e'
   obtain ⟨h1, h2⟩ := h
   have h1' : p1 = k := h1
   subst h1'
   exact ⟨p2, rfl, h2⟩
  | succ i => exact ih (by simpa using e)
theorem wZ {P : Program} {w : World} {k : Key} {u : Value} (h : (be P w).is k u = true) : aQ (kV k) u := by
 rcases bu (k := k) (v := u) h with ⟨i, t, rfl, rfl⟩ | ⟨x, t, rfl, rfl⟩
 ·exact ⟨t, rfl⟩
 ·exact ⟨t, rfl⟩
def Ite (K : PySem.W.Frag) (a : Addr) : It :=
 ⟨fun i H => ∃ xs x, SqL K H a xs /\ xs[i]? = some x, fun i H x H' => ∃ p y, H p = none /\ H' = upd H p (.tup [.int i, y]) /\ x = .ref p /\ ∀ xs, SqL K H a xs -> xs[i]? = some y, fun i H => ∃ xs, SqL K H a xs /\ xs.length <= i⟩
theorem qU {P : Program} {w : World} {K : PySem.W.Frag} {elts : List Expr} {x1} {tp : Pos} (a e it : Addr) (hei : e ≠ it) : ja P w K (.Tuple elts x1 tp) (Ite K a) [e, it] e (fun i h => (∃ old, IsEnum h e it i old) /\ h.IsListIter it a i) where
 mem := by simp
 obj := fun i h st b hb => by
  obtain ⟨⟨old, s1⟩, ⟨o, e2, c, d⟩⟩ := st
  rcases List.mem_cons.mp hb with rfl | hb
  ·exact ⟨_, s1, fun v z => by
    have z' : Data.fields _ = Data.cell v := z
    cases z'⟩
  ·have e' : b = it := by simpa using hb
   subst e'
   exact ⟨o, e2, fun v z => by rw [d] at z; cases z⟩
 keep := fun i h h' st k => ⟨let ⟨old, s1⟩ := st.1; ⟨old, k e (by simp) _ s1⟩, st.2.at fun o q => k it (by simp) o q⟩
 item := by
  intro X hP hw hK hc i pins s σ H E I hf st hg
  subst hP hw hK
  obtain ⟨xs, x, hq, hx⟩ := hg
  obtain ⟨its, rv, p, hz⟩ := I.list hq
  obtain ⟨u, hu, ru⟩ := rv.get hx
  obtain ⟨f0, f1, f2, f3, f4, f5⟩ := hf e (by simp)
  obtain ⟨g0, g1, g2, g3, g4, g5⟩ := hf it (by simp)
  obtain ⟨⟨old, s1⟩, s2⟩ := st
  have he : e < s.heap.objs.size := Heap.lt_size s1
  have hit : it < s.heap.objs.size := by obtain ⟨o, q, _⟩ := s2; exact Heap.lt_size q
  refine wpAny_pyNext_enum_item s1 s2 p.isList (x := u) (by simpa using hu) hei fun h1 heo hit1 ht1 hz1 hk1 => ?_
  refine ⟨_, rfl, wpAny_letOwnedTupleGo_enum heo fun h2 he2 hs2 => ?_⟩
  have hn : H s.heap.objs.size = none := I.hok.fresh (Nat.le_refl _)
  have keep : ∀ b o, b ≠ e -> b ≠ it -> s.heap.get? b = some o -> h2.get? b = some o := fun b o h1' h2' q => (hs2.2 b h1').trans (hk1 b o h1' h2' q)
  have tup : h2.get? s.heap.objs.size = some { cls := .type "tuple", data := .seq #[.int i s.toks, u] } := (hs2.2 _ (ngt he)).trans ht1
  have I2 : Inv X pins σ (upd H s.heap.objs.size (.tup [.int i, x])) { s with heap := h2, toks := s.toks + 1 } := by
   have nitx : ∀ b v, H b = some v -> b ≠ e /\ b ≠ it := fun b v q => ⟨(fun z => by rw [z, f0] at q; cases q), (fun z => by rw [z, g0] at q; cases q)⟩
   refine I.step (g' := s.gens) (d' := s.drawn) (ch := [e, it]) (fun b hb => ?_) (fun b o _ _ hc' q _ => keep b o (fun z => hc' (by simp [z])) (fun z => hc' (by simp [z])) q) (fun b o _ _ hc' q _ => ⟨o.slots, keep b o (fun z => hc' (by simp [z])) (fun z => hc' (by simp [z])) q⟩)
    (fun b o _ q n => by rw [aE (nlt (Heap.lt_size q))]; exact n) (fun b o hc' q => ⟨o, keep b o (fun z => hc' (by simp [z])) (fun z => hc' (by simp [z])) q⟩)
    (fun b xs q => by rw [aE (am q hn)]; exact q) (fun b o v q => by rw [aE (am q hn)]; exact q) (fun b ps q => ⟨#[], by rw [aE (am q hn), q]; simp⟩) (fun m hm => ?_) (fun b v q => ?_) I.bare
   ·rcases List.mem_cons.mp hb with rfl | hb
    ·exact ⟨f3, f1, f4, f5⟩
    ·have e' : b = it := by simpa using hb
     subst e'
     exact ⟨g3, g1, g4, g5⟩
   ·obtain ⟨o, es, ep, ho, r⟩ := hm
    exact ⟨o, es, ep, keep _ o (Ne.symm f1) (Ne.symm g1) ho, r⟩
   ·by_cases hb : b = s.heap.objs.size
    ·subst hb
     rw [ad] at q
     cases q
     exact ⟨(show 2 <= sizeLine by rw [sizeLine_eq]; decide), [.int i s.toks, u], .cons ⟨_, rfl⟩ (.cons ru .nil), ⟨_, tup, rfl, 0, rfl⟩, _, tup, rfl⟩
    ·rw [aE hb] at q
     refine (I.hok b v q).stay (fun c w' hc' q' => ?_) (fun c q' => by rw [aE (am q' hn)]; exact q') fun c xs q' => by rw [aE (am q' hn)]; exact q'
     rcases hc' with z | z
     ·subst z; exact keep c w' (nitx c v q).1 (nitx c v q).2 q'
     ·exact keep c w' (nitx c _ z).1 (nitx c _ z).2 q'
  refine ⟨.ref s.heap.objs.size, _, I2, rfl, ⟨_, x, hn, rfl, rfl, fun ys hy => by rw [I.list_inj hy hq]; exact hx⟩, ⟨⟨u, ?_⟩, ?_⟩, fun b hb => ?_⟩
  ·have e1 : ((i + 1 : Nat) : Int) = (i : Int) + 1 := by omega
   rw [e1]
   exact he2
  ·exact hit1.at fun o q => (hs2.2 _ (Ne.symm hei)).trans q
  ·have hb' : b < s.heap.objs.size := by
    rcases List.mem_cons.mp hb with rfl | hb
    ·exact he
    ·have e' : b = it := by simpa using hb
     subst e'; exact hit
   rw [aE (nlt hb')]
   exact (hf b hb).1
 done := by
  intro X hP hw hK hc i pins s σ H E I hf st hg
  subst hP hw hK
  obtain ⟨xs, hq, hx⟩ := hg
  obtain ⟨its, rv, p, hz⟩ := I.list hq
  obtain ⟨g0, g1, g2, g3, g4, g5⟩ := hf it (by simp)
  obtain ⟨⟨old, s1⟩, s2⟩ := st
  have hl := rv.length
  exact wpAny_pyNext_enum_end (I.ok.hd hc) s1 s2 p.isList (by simp; omega) fun h' eb => ⟨rfl, I.turned (t' := s.toks) (fun b o hb q => eb b o hb q) g0 g1 g3 g4 g5⟩
 self := fun A i s Q E st h => by
  obtain ⟨⟨old, s1⟩, s2⟩ := st
  have hT : s.TypeIs (.ref e) "enumerate" := ⟨_, s1, rfl⟩
  refine wpAny_pyIter_slot hT PySem.F.slot_enumerate_iter (wpAny_call_entry PySem.F.slot_enumerate_iter hT PySem.F.entry_enumerate_iter ?_ (PySem.F.args_enumerate_iter_1 _))
  show wpAny _ _ (ret (.ref e)) _ _ s
  exact wpAny_pure ⟨_, rfl, "enumerate", _, hT, PySem.F.slot_enumerate_next.lookup, h⟩
def xh (K : PySem.W.Frag) (ta : TA) : TI := fun σ H R => ta σ H fun vs H1 => ∃ a, vs = [.ref a] /\ (∃ xs, SqL K H1 a xs) /\ R (Ite K a) H1
theorem eZ {a : Expr} {ta : TA} {p pos : Pos} {elts : List Expr} {x1} {tp : Pos} (hg : Gl X "enumerate") (hm : X.mg "enumerate" = none) (ha : PA X [a] ta) (hs : starEach [a] X.env = [(false, eval a X.env)] := by rfl) : PI X (.Tuple elts x1 tp) (.Call (.Name "enumerate" p) [a] [] pos) (xh X.K ta) := by
 intro pins s σ H R I h
 refine Call_ (eC I hg hm (u := .type "enumerate") (by decide +kernel) (PyProof.Rows.callWith_type1 (thn (ha pos pins s σ H _ I h) fun us s1 ⟨vs, H1, I1, r1, q1⟩ => ?_) hs rfl))
 obtain ⟨l, e, ⟨xs, hq⟩, q⟩ := q1
 subst e
 cases r1 with
 | cons r rr =>
  cases rr
  cases r
  obtain ⟨its, rv, p, hz⟩ := I1.list hq
  refine call_enumerate_list p.isList fun h' he hit hsz kp => ?_
  have I2 : Inv X pins σ H1 { s1 with heap := h' } := I1.kept (t' := s1.toks) kp
  have T : ja X.prog X.w X.K (.Tuple elts x1 tp) (Ite X.K l) [s1.heap.objs.size + 1, s1.heap.objs.size] (s1.heap.objs.size + 1) (fun i h => (∃ old, IsEnum h (s1.heap.objs.size + 1) s1.heap.objs.size i old) /\ h.IsListIter s1.heap.objs.size l i) := qU l _ _ (xN _)
  refine T.self X.A 0 { s1 with heap := h' } _ _ ⟨⟨_, he⟩, hit⟩ ?_
  refine ⟨s1.heap.objs.size + 1, _, _, _, H1, rfl, I2, T, ⟨⟨_, he⟩, hit⟩, fun b hb => ?_, q⟩
  have hb' : s1.heap.objs.size <= b := by
   rcases List.mem_cons.mp hb with rfl | hb
   ·exact Nat.le_succ _
   ·have e' : b = s1.heap.objs.size := by simpa using hb
    subst e'; exact Nat.le_refl _
  obtain ⟨f0, f1⟩ := I1.fpOk hb' (I1.hok.fresh hb')
  exact ⟨f0, f1⟩
end
section
variable {X : Cx}
theorem gr : OpR X (compareOp .LtE) (fun x y H Q => ∃ i j, x = .str i /\ y = .str j /\ Q (.bl (!decide (j.cps.toList < i.cps.toList))) H) := by
 intro pins s σ H x y v u Q I rx ry h
 obtain ⟨i, j, rfl, rfl, q⟩ := h
 obtain ⟨t, rfl⟩ := rx
 obtain ⟨t', rfl⟩ := ry
 exact PySem.P.le_str (aZ I q rfl)
theorem kt {s : Shared} {h' : Heap} {o : Obj} (hk : ∀ b x, b ∉ [s.heap.objs.size] -> (s.heap.push o).get? b = some x -> h'.get? b = some x) (b : Addr) (x : Obj) (e : s.heap.get? b = some x) : h'.get? b = some x :=
 hk b x (fun z => by rw [List.mem_singleton.mp z] at e; exact Nat.lt_irrefl _ (Heap.lt_size e)) (Heap.get?_push_of_some _ e)
theorem lS : ∀ {bs : List Bool} {us : List Value}, aL (bs.map V.bl) us -> ∀ (i : Nat) (v : Value), us[i]? = some v -> ∃ b, bs[i]? = some b /\ v = .bool b
 | [], _, .nil, i, v, e => by simp at e
 | b :: bs, u :: us, .cons r t, 0, v, e => by
  have e' : u = v := by simpa using e
  subst e'
  exact ⟨b, rfl, r⟩
 | b :: bs, u :: us, .cons r t, i + 1, v, e => lS (bs := bs) t i v (by simpa using e)
theorem gj (hc : X.calm = true) : dP X (.builtin "all") (fun xs H Q => ∃ (a : Addr) (bs : List Bool), xs = [.ref a] /\ SqL X.K H a (bs.map V.bl) /\ Q (.bl (bs.all id)) H) := by
 intro pins s σ H xs us Q I r h
 obtain ⟨a, bs, rfl, hq, q⟩ := h
 obtain ⟨u, rfl, ru⟩ := fm r
 cases ru
 obtain ⟨its, rv, p, hz⟩ := I.list hq
 have hl := p.isList
 have hlt : a < s.heap.objs.size := by obtain ⟨_, e, _⟩ := hl; exact Heap.lt_size e
 refine call_all_walk (wpAny_pyIter_list hl ?_)
 refine ⟨s.heap.objs.size, [s.heap.objs.size, a], [s.heap.objs.size], its.toArray.size, _, _, fun i => (bs[i]?).getD true, rfl, Walks.list (A := X.A.in1) (I.ok.hd hc) _ a (Nat.ne_of_lt hlt) its.toArray,
  ⟨⟨_, Heap.get?_push_size _ rfl, rfl, rfl⟩, hl.push _⟩, fun i v s' Q' E' hP hQ => ?_, fun h' tk hk => ?_⟩
 ·obtain ⟨b, e, rfl⟩ := lS rv i v (by simpa using hP)
  simp only [e, Option.getD_some] at hQ
  exact wpAny_truthy_bool hQ
 ·have hlen := rv.length
  have e : ((List.range its.toArray.size).all fun i => (bs[i]?).getD true) = bs.all id := by
   rw [List.size_toArray, <- hlen, List.length_map, Bool.eq_iff_iff, List.all_eq_true, List.all_eq_true]
   constructor
   ·intro z b hb
    obtain ⟨i, hi, rfl⟩ := List.getElem_of_mem hb
    have := z i (List.mem_range.mpr hi)
    simpa [hi] using this
   ·intro z i hi
    have hi' := List.mem_range.mp hi
    rw [List.getElem?_eq_getElem hi']
    exact z _ (List.getElem_mem hi')
  rw [e]
  exact ⟨.bl _, H, I.kept (kt hk), rfl, q⟩
theorem bB : dP X (.builtin "isinstance") (fun xs H Q => ∃ x t n b, xs = [x, .ty n] /\ fJ X.K H x t /\ PySem.W.kitOne X.K t (.type n) = some b /\ Q (.bl b) H) := by
 intro pins s σ H xs us Q I r h
 obtain ⟨x, t, n, b, rfl, ty, e, q⟩ := h
 obtain ⟨u, w', rfl, rx, rn⟩ := rD r
 cases rn
 exact qo I rx ty e fun tk => ⟨.bl b, H, I.tok tk, rfl, q⟩
theorem tD : SlR X (fun x lo hi H Q => ∃ z, x = .str z /\ z.length <= sizeLine /\ Q (.str (Txt.slice z lo hi)) H) := by
 intro pins s σ H x v vl vu lo hi sl Q I rx hs pl pu h
 obtain ⟨z, rfl, hz, q⟩ := h
 obtain ⟨t, rfl⟩ := rx
 refine ⟨"str", _, slot_str_getitem.lookup, typeIs_str _ _ _, ?_⟩
 have fin : (Txt.slice z lo hi).length <= sizeLine /\ ∀ t' k, EP X pins σ Q (.str (Txt.slice z lo hi) t') { s with toks := k } := ⟨Nat.le_trans (Txt.slice_le z _ _) hz, fun t' k => ⟨.str _, H, I.tok _, ⟨_, rfl⟩, q⟩⟩
 cases pl with
 | none =>
  cases pu with
  | none => exact wpAny_getItem_str_slice (l := none) (u := none) (st := none) hs rfl (post_val_or_str fin)
  | int j uj => exact wpAny_getItem_str_slice (l := none) (u := some (j, uj)) (st := none) hs rfl (post_val_or_str fin)
 | int i ui =>
  cases pu with
  | none => exact wpAny_getItem_str_slice (l := some (i, ui)) (u := none) (st := none) hs rfl (post_val_or_str fin)
  | int j uj => exact wpAny_getItem_str_slice (l := some (i, ui)) (u := some (j, uj)) (st := none) hs rfl (post_val_or_str fin)
end
open PySem PySem.Spec PyProof.Rows PySem.W
section
variable {cmp : Nat -> Nat -> (Bool -> Shared -> Prop) -> Shared -> Prop} {lt : Nat -> Nat -> Bool} {n : Nat} {s : Shared}
structure Ord (cmp : Nat -> Nat -> (Bool -> Shared -> Prop) -> Shared -> Prop) (lt : Nat -> Nat -> Bool) (n : Nat) (s : Shared) : Prop where
 ask : ∀ i j C, i < n -> j < n -> i ≠ j -> C (lt i j) s -> cmp i j C s
 tr : ∀ i j k, lt i j = true -> lt j k = true -> lt i k = true
 tot : ∀ i j, i < n -> j < n -> i ≠ j -> lt i j = false -> lt j i = true
 asym : ∀ i j, lt i j = true -> lt j i = false
structure Re (n : Nat) (p : Array Nat) : Prop where
 size : p.size = n
 lt : ∀ i, i < n -> p.getD i 0 < n
 inj : ∀ i j, i < n -> j < n -> i ≠ j -> p.getD i 0 ≠ p.getD j 0
 perm : p.Perm (List.toArray (List.range n))
theorem Re.of_perm {p : Array Nat} (h : p.Perm (List.toArray (List.range n))) : Re n p := by
 have hs : p.size = n := by have := h.size_eq; simpa using this
 have hl : p.toList.Perm (List.range n) := by simpa using Array.perm_iff_toList_perm.mp h
 have nd : p.toList.Nodup := (List.Perm.nodup_iff hl).mpr List.nodup_range
 have get : ∀ i, (hi : i < n) -> p.getD i 0 = p.toList[i]'(by simpa [hs] using hi) := fun i hi => by
  simp [Array.getD, hs, hi]
 refine ⟨hs, fun i hi => ?_, fun i j hi hj hij e => ?_, h⟩
 ·have hm : p.getD i 0 ∈ p.toList := by rw [get i hi]; exact List.getElem_mem _
  exact List.mem_range.mp ((List.Perm.mem_iff hl).mp hm)
 ·rw [get i hi, get j hj] at e
  exact hij ((List.getElem_inj nd).mp e)
def Up (lt : Nat -> Nat -> Bool) (p : Array Nat) (m : Nat) : Prop := ∀ i j, i < j -> j < m -> lt (p.getD i 0) (p.getD j 0) = true
def Dn (lt : Nat -> Nat -> Bool) (p : Array Nat) (m : Nat) : Prop := ∀ i j, i < j -> j < m -> lt (p.getD j 0) (p.getD i 0) = true
theorem Up.next {p : Array Nat} {m : Nat} (O : Ord cmp lt n s) (h : Up lt p m) (h1 : 1 <= m) (hq : lt (p.getD (m - 1) 0) (p.getD m 0) = true) : Up lt p (m + 1) := fun i j hij hj => by
 by_cases e : j = m
 ·subst e
  by_cases e2 : i = j - 1
  ·subst e2; exact hq
  ·exact O.tr _ _ _ (h i (j - 1) (by omega) (by omega)) hq
 ·exact h i j hij (by omega)
theorem Dn.next {p : Array Nat} {m : Nat} (O : Ord cmp lt n s) (h : Dn lt p m) (h1 : 1 <= m) (hq : lt (p.getD m 0) (p.getD (m - 1) 0) = true) : Dn lt p (m + 1) := fun i j hij hj => by
 by_cases e : j = m
 ·subst e
  by_cases e2 : i = j - 1
  ·subst e2; exact hq
  ·exact O.tr _ _ _ hq (h i (j - 1) (by omega) (by omega))
 ·exact h i j hij (by omega)
theorem nF {p : Array Nat} {Q : Nat -> Shared -> Prop} (O : Ord cmp lt n s) (r : Re n p) : ∀ (f m : Nat), 1 <= m -> m + f <= n -> Up lt p m -> (∀ m', m <= m' -> m' <= m + f -> Up lt p m' -> (m' = m + f \/ lt (p.getD m' 0) (p.getD (m' - 1) 0) = true) -> Q m' s) -> (kas_asc p f m).kasWp cmp Q s
 | 0, m, h1, hm, u, q => q m (Nat.le_refl _) (Nat.le_refl _) u (.inl rfl)
 | f + 1, m, h1, hm, u, q => by
  show cmp _ _ _ s
  refine O.ask _ _ _ (r.lt m (by omega)) (r.lt (m - 1) (by omega)) (r.inj _ _ (by omega) (by omega) (by omega)) ?_
  cases c : lt (p.getD m 0) (p.getD (m - 1) 0) with
  | true =>
   show (KasT.ret m).kasWp cmp Q s
   exact q m (Nat.le_refl _) (by omega) u (.inr c)
  | false =>
   show (kas_asc p f (m + 1)).kasWp cmp Q s
   have hq := O.tot _ _ (r.lt m (by omega)) (r.lt (m - 1) (by omega)) (r.inj _ _ (by omega) (by omega) (by omega)) c
   refine nF O r f (m + 1) (by omega) (by omega) (u.next O h1 hq) fun m' a b c d => q m' (by omega) (by omega) c ?_
   rcases d with d | d
   ·exact .inl (by omega)
   ·exact .inr d
theorem oF {p : Array Nat} {Q : Array Nat × Nat × Nat -> Shared -> Prop} (O : Ord cmp lt n s) (r : Re n p) : ∀ (f m : Nat), 1 <= m -> m + f <= n -> Dn lt p m -> (∀ m', m <= m' -> m' <= m + f -> Dn lt p m' -> Q (p, m', 0) s) -> (kas_desc f p m 0).kasWp cmp Q s
 | 0, m, h1, hm, u, q => q m (Nat.le_refl _) (Nat.le_refl _) u
 | f + 1, m, h1, hm, u, q => by
  show cmp _ _ _ s
  refine O.ask _ _ _ (r.lt m (by omega)) (r.lt (m - 1) (by omega)) (r.inj _ _ (by omega) (by omega) (by omega)) ?_
  cases c : lt (p.getD m 0) (p.getD (m - 1) 0) with
  | true =>
   show (kas_desc f p (m + 1) 0).kasWp cmp Q s
   exact oF O r f (m + 1) (by omega) (by omega) (u.next O h1 c) fun m' a b c => q m' (by omega) (by omega) c
  | false =>
   show cmp _ _ _ s
   refine O.ask _ _ _ (r.lt (m - 1) (by omega)) (r.lt m (by omega)) (r.inj _ _ (by omega) (by omega) (by omega)) ?_
   rw [O.tot _ _ (r.lt m (by omega)) (r.lt (m - 1) (by omega)) (r.inj _ _ (by omega) (by omega) (by omega)) c]
   show (KasT.ret (p, m, 0)).kasWp cmp Q s
   exact q m (Nat.le_refl _) (by omega) u
theorem pi {p : Array Nat} {m k : Nat} (hm : m <= p.size) : (kas_rev p 0 m).getD k 0 = if k < m then p.getD (m - 1 - k) 0 else p.getD k 0 := by
 have h := getElem?_mirror_all (xs := p) (i := 0) (j := m) hm k
 have e1 : ∀ (a : Array Nat) (i : Nat), a.getD i 0 = (a[i]?).getD 0 := fun a i => by rw [Array.getD_eq_getD_getElem?]
 rw [e1]
 unfold kas_rev
 rw [h]
 by_cases hk : k < m
 ·rw [if_pos hk]
  simp only [e1]
  rw [if_pos (by omega)]
  congr 2
  omega
 ·rw [if_neg hk]
  simp only [e1]
  rw [if_neg (by omega)]
theorem rS {p : Array Nat} {m : Nat} (r : Re n p) : Re n (kas_rev p 0 m) := Re.of_perm ((mirror_perm p 0 m _).trans r.perm)
theorem sI {Q : Nat × Array Nat -> Shared -> Prop} {p : Array Nat} (O : Ord cmp lt n s) (r : Re n p) (h2 : 2 <= n) (q : ∀ m p', Re n p' -> 1 <= m -> m <= n -> Up lt p' m -> Q (m, p') s) : (kas_count n p).kasWp cmp Q s := by
 unfold kas_count
 rw [KasT.kasWp_bind]
 refine nF O r (n - 1) 1 (Nat.le_refl _) (by omega) (fun i j h1 h2 => by omega) fun m a b u e => ?_
 by_cases hm : (m == n) = true
 ·rw [if_pos hm]
  exact q m p r a (by omega) u
 ·rw [if_neg hm]
  have hmn : m ≠ n := by simpa using hm
  by_cases h1 : m > 1
  ·rw [if_pos h1]
   show cmp _ _ _ s
   refine O.ask _ _ _ (r.lt 0 (by omega)) (r.lt (m - 1) (by omega)) (r.inj _ _ (by omega) (by omega) (by omega)) ?_
   rw [u 0 (m - 1) (by omega) (by omega)]
   show (KasT.ret (m, p)).kasWp cmp Q s
   exact q m p r a (by omega) u
  ·rw [if_neg h1]
   have e1 : m = 1 := by omega
   subst e1
   have hd : lt (p.getD 1 0) (p.getD 0 0) = true := by
    rcases e with e | e
    ·omega
    ·exact e
   unfold kas_descPart
   rw [KasT.kasWp_bind]
   refine oF O r (n - (1 + 1)) (1 + 1) (by omega) (by omega) (fun i j h1 h2 => ?_) fun m' a' b' dn => ?_
   ·have : i = 0 := by omega
    have : j = 1 := by omega
    subst_vars
    exact hd
   ·show (if (0 : Nat) > 0 then _ else kas_tail3 m' n p).kasWp cmp Q s
    rw [if_neg (by omega)]
    unfold kas_tail3
    rw [KasT.kasWp_bind]
    have up : Up lt (kas_rev p 0 m') m' := fun i j hij hj => by
     rw [pi (by rw [r.size]; omega), pi (by rw [r.size]; omega), if_pos (by omega), if_pos (by omega)]
     exact dn _ _ (by omega) (by omega)
    refine nF O (rS r) (n - m') m' (by omega) (by omega) up fun m2 a2 b2 u2 _ => ?_
    exact q m2 _ (rS r) (by omega) (by omega) u2
theorem iU {p : Array Nat} {k : Nat} {Q : Nat -> Shared -> Prop} (O : Ord cmp lt n s) (r : Re n p) (hk : k < n) (u : Up lt p k) (q : ∀ l, l <= k -> (∀ i, i < l -> lt (p.getD i 0) (p.getD k 0) = true) -> (∀ i, l <= i -> i < k -> lt (p.getD k 0) (p.getD i 0) = true) -> Q l s) :
  ∀ (f l e : Nat), l <= e -> e <= k -> e - l <= f -> (∀ i, i < l -> lt (p.getD i 0) (p.getD k 0) = true) -> (∀ i, e <= i -> i < k -> lt (p.getD k 0) (p.getD i 0) = true) -> (kas_place p k f l e).kasWp cmp Q s
 | 0, l, e, h1, h2, h3, a, b => q l (by omega) a fun i hi hk' => b i (by omega) hk'
 | f + 1, l, e, h1, h2, h3, a, b => by
  show (if l >= e then KasT.ret l else _).kasWp cmp Q s
  by_cases h : l >= e
  ·rw [if_pos h]
   exact q l (by omega) a fun i hi hk' => b i (by omega) hk'
  ·rw [if_neg h]
   show cmp _ _ _ s
   have hm : (l + e) / 2 < k := by omega
   refine O.ask _ _ _ (r.lt k hk) (r.lt _ (by omega)) (r.inj _ _ hk (by omega) (by omega)) ?_
   cases c : lt (p.getD k 0) (p.getD ((l + e) / 2) 0) with
   | true =>
    show (kas_place p k f l ((l + e) / 2)).kasWp cmp Q s
    refine iU O r hk u q f l _ (by omega) (by omega) (by omega) a fun i hi hk' => ?_
    by_cases ei : i = (l + e) / 2
    ·subst ei; exact c
    ·exact O.tr _ _ _ c (u _ i (by omega) hk')
   | false =>
    show (kas_place p k f ((l + e) / 2 + 1) e).kasWp cmp Q s
    have c' := O.tot _ _ (r.lt k hk) (r.lt _ (by omega)) (r.inj _ _ hk (by omega) (by omega)) c
    refine iU O r hk u q f _ e (by omega) h2 (by omega) (fun i hi => ?_) b
    by_cases ei : i = (l + e) / 2
    ·subst ei; exact c'
    ·exact O.tr _ _ _ (u i _ (by omega) hm) c'
theorem pD {p : Array Nat} {k d j : Nat} (hk : k < p.size) (hd : d <= k) : (bubble p k d).getD j 0 = if j < k - d \/ k < j then p.getD j 0 else if j = k - d then p.getD k 0 else p.getD (j - 1) 0 := by
 have e1 : ∀ (a : Array Nat) (i : Nat), a.getD i 0 = (a[i]?).getD 0 := fun a i => by rw [Array.getD_eq_getD_getElem?]
 have h := getElem?_bubble (xs := p) (src := k) hk d hd j
 rw [e1, h]
 by_cases a : j = k - d
 ·rw [if_pos a, if_neg (by omega), if_pos a, e1]
 ·rw [if_neg a]
  by_cases b : k - d < j /\ j <= k
  ·rw [if_pos b, if_neg (by omega), if_neg a, e1]
  ·rw [if_neg b, if_pos (by omega), e1]
theorem sA {Q : Array Nat -> Shared -> Prop} (O : Ord cmp lt n s) (q : ∀ p, Re n p -> Up lt p n -> Q p s) : ∀ (f k : Nat) (p : Array Nat), Re n p -> 1 <= k -> k + f = n -> Up lt p k -> (kas_bin f p k).kasWp cmp Q s
 | 0, k, p, r, h1, hn, u => q p r (by rw [<- hn]; exact u)
 | f + 1, k, p, r, h1, hn, u => by
  show ((kas_place p k k 0 k).bind fun l => kas_bin f (bubble p k (k - l)) (k + 1)).kasWp cmp Q s
  rw [KasT.kasWp_bind]
  refine iU O r (by omega) u (fun l hl a b => ?_) k 0 k (Nat.zero_le _) (Nat.le_refl _) (by omega) (fun i hi => by omega) (fun i h1 h2 => by omega)
  have hks : k < p.size := by rw [r.size]; omega
  refine sA O q f (k + 1) _ (Re.of_perm ((bubble_perm p k _).trans r.perm)) (by omega) (by omega) fun i j hij hj => ?_
  rw [pD hks (by omega), pD hks (by omega)]
  have ek : k - (k - l) = l := by omega
  rw [ek]
  by_cases hi : i < l
  ·rw [if_pos (.inl hi)]
   by_cases hj2 : j < l
   ·rw [if_pos (.inl hj2)]; exact u i j hij (by omega)
   ·rw [if_neg (by omega)]
    by_cases hj3 : j = l
    ·rw [if_pos hj3]; exact a i hi
    ·rw [if_neg hj3]; exact u i (j - 1) (by omega) (by omega)
  ·rw [if_neg (by omega)]
   by_cases hi2 : i = l
   ·rw [if_pos hi2, if_neg (by omega), if_neg (by omega)]
    exact b (j - 1) (by omega) (by omega)
   ·rw [if_neg hi2, if_neg (by omega), if_neg (by omega)]
    exact u (i - 1) (j - 1) (by omega) (by omega)
theorem uV {Q : Array Nat -> Shared -> Prop} (O : Ord cmp lt n s) (h2 : 2 <= n) (q : ∀ p, Re n p -> Up lt p n -> Q p s) : (kas_sort n).kasWp cmp Q s := by
 unfold kas_sort
 rw [KasT.kasWp_bind]
 refine sI O (Re.of_perm (Array.Perm.refl _)) h2 fun m p r h1 hm u => ?_
 show (if m < n then kas_bin (n - max m 1) p (max m 1) else .ret p).kasWp cmp Q s
 have em : max m 1 = m := by omega
 rw [em]
 by_cases h : m < n
 ·rw [if_pos h]
  exact sA O q (n - m) m p r h1 (by omega) u
 ·rw [if_neg h]
  have : m = n := by omega
  subst this
  exact q p r u
end
theorem ji {prog : Program} {w : World} {A : Around} {E : Value -> Shared -> Prop} {st : Shared} {l : Addr} {us : List Value} {ep : Nat} {R : PySem.Fin -> Shared -> Prop} (at0 : st.heap.get? l = some (seqObj "list" us.toArray ep)) (few : us.length < 2)
  (fin : ∀ hp ep', (∀ b o, b ≠ l -> st.heap.get? b = some o -> hp.get? b = some o) -> hp.get? l = some (seqObj "list" us.toArray ep') -> R (.done (.ret .none)) { st with heap := hp }) :
  wpAny (model prog w) A (Builtin.«list.sort» ⟨[.ref l], []⟩) R E st := by
 have sz : us.toArray.size = us.length := by simp
 have lt0 : l < st.heap.objs.size := Heap.lt_size at0
 have line : us.length <= sizeLine := by rw [sizeLine_eq]; omega
 rw [list_sort_plain]
 refine wpAny_bind (listItems_at at0 rfl (wpAny_bind (listUpdate_at at0 rfl ?_ (by rw [sz]; exact line) (Nat.zero_le _))))
 have at1 := get?_update_seq at0 (fun _ => (#[] : Array Value))
 refine wpAny_bind (seqEpoch_at at1 rfl (wpAny_bind (wpAny_newTuple ?_ (by show us.length <= _; exact line))))
 refine wpAny_bind (wpAny_newList ?_ (Nat.zero_le _))
 refine wpAny_holding ?_
 rw [if_pos (by rw [sz]; exact few), if_pos (by rw [sz]; exact few)]
 show wpAny (model prog w) A _ R E { st with heap := ((st.heap.update l (Obj.mapSeq fun _ => (#[] : Array Value))).push (seqObj "tuple" us.toArray 0)).push (seqObj "list" #[] 0) }
 have at2 : (((st.heap.update l (Obj.mapSeq fun _ => (#[] : Array Value))).push (seqObj "tuple" us.toArray 0)).push (seqObj "list" #[] 0)).get? l = some (seqObj "list" #[] (if ((#[] : Array Value).size == us.toArray.size) = true then ep else ep + 1)) := by
  rw [Heap.get?_push_ne _ _ _ (by rw [size_push', Heap.size_update]; exact ng lt0), Heap.get?_push_ne _ _ _ (by rw [Heap.size_update]; exact nlt lt0)]
  exact at1
 have all : (arrOf (SortSt.mk' general' (us.toArray.zip us.toArray) #[] 7 none)).map (·.2) = us.toArray := by
  show (us.toArray.zip us.toArray).map (·.2) = us.toArray
  apply Array.ext'
  simp [List.map_snd_zip]
 have at3 := get?_update_seq at2 (fun _ => us.toArray)
 refine wpAny_bind (wpAny_pure ?_)
 dsimp only
 rw [StateT.run_pure]
 refine wpAny_bind (wpAny_pure ?_)
 dsimp only
 refine wpAny_bind (seqEpoch_at at2 rfl ?_)
 refine wpAny_bind (listUpdate_at at2 rfl ?_ (Nat.zero_le _) (by rw [all, sz]; omega))
 simp only [bne_self_eq_false, Bool.false_eq_true, if_false]
 rw [all]
 refine wpAny_pure (fin _ _ (fun b o hb e => ?_) at3)
 rw [Heap.get?_update_ne _ _ _ _ hb, Heap.get?_push_ne _ _ _ (by rw [size_push', Heap.size_update]; exact ng (Heap.lt_size e)), Heap.get?_push_ne _ _ _ (by rw [Heap.size_update]; exact nlt (Heap.lt_size e)), Heap.get?_update_ne _ _ _ _ hb]
 exact e
theorem wG {h : Heap} {a : Addr} {m m' : Str -> Option Value} (x : h.Ns a m) (y : h.Ns a m') : m = m' := by
 obtain ⟨o, es, ep, e, d, _, f⟩ := x
 obtain ⟨o', es', ep', e', d', _, f'⟩ := y
 rw [e] at e'
 cases e'
 rw [d] at d'
 cases d'
 funext z
 rw [<- f z, f' z]
theorem uZ {a b : List Nat} (h : ¬ a < b) (h2 : a ≠ b) : b < a := by
 by_cases h3 : b < a
 ·exact h3
 ·exact absurd (List.le_antisymm (List.not_lt.mp h3) (List.not_lt.mp h)) h2
theorem uJ {a b : Str} (h : a.cps.toList = b.cps.toList) : a = b := by
 cases a
 cases b
 congr 1
 exact Array.ext' h
section
variable {X : Cx} {pins : List (Addr × Obj)} {σ : St} {H : Hp} {s : Shared}
abbrev TK := Addr × Str × List V
def rg (p q : TK) : Prop := p.2.1.cps.toList < q.2.1.cps.toList
theorem tU (ps : List TK) : ∀ (us : List Value), aL (ps.map fun p => V.ref p.1) us -> us = ps.map fun p => Value.ref p.1 := by
 induction ps with
 | nil =>
  intro us r
  cases r
  rfl
 | cons p ps ih =>
  intro us r
  rw [List.map_cons] at r ⊢
  cases r with
  | cons r t =>
   rw [ih _ t, show _ = Value.ref p.1 from r]
theorem gs (ps : List TK) : aL (ps.map fun p => V.ref p.1) (ps.map fun p => Value.ref p.1) := by
 induction ps with
 | nil => exact .nil
 | cons p ps ih => exact .cons rfl ih
theorem sL (I : Inv X pins σ H s) {a : Addr} {x : Str} {r : List V} (h : H a = some (.tup (.str x :: r))) : ∃ (o : Obj) (us : List Value) (n : Nat) (t : Tok), s.heap.get? a = some o /\ o.cls = .type "tuple" /\ o.data = .seq (Value.str x t :: us).toArray n := by
 obtain ⟨_, its, rv, ⟨o, e, c, n, d⟩, _⟩ := (show bo X.prog X.w H s.heap a (.tup (.str x :: r)) from I.hok a _ h)
 cases rv with
 | cons r1 r2 =>
  obtain ⟨t, rfl⟩ := r1
  exact ⟨o, _, n, t, e, c, d⟩
theorem pR {n : Nat} {p : Array Nat} {α : Type} {d : α} {ps : List α} (hn : ps.length = n) (r : Re n p) : (p.toList.map fun i => ps.getD i d).Perm ps := by
 have hl : p.toList.Perm (List.range n) := by simpa using Array.perm_iff_toList_perm.mp r.perm
 refine (hl.map _).trans ?_
 have e : (List.range n).map (fun i => ps.getD i d) = ps := by
  apply List.ext_getElem?
  intro i
  rw [List.getElem?_map]
  by_cases hi : i < n
  ·rw [List.getElem?_range hi]
   simp [List.getD, show i < ps.length by omega]
  ·rw [List.getElem?_eq_none (by simpa using hi), List.getElem?_eq_none (by omega)]
   rfl
 rw [e]
theorem jb {n : Nat} {p : Array Nat} {α : Type} {d : α} {ps : List α} {R : α -> α -> Prop} {lt : Nat -> Nat -> Bool} (hlt : ∀ i j, i < n -> j < n -> lt i j = true -> R (ps.getD i d) (ps.getD j d)) (r : Re n p) (u : Up lt p n) : (p.toList.map fun i => ps.getD i d).Pairwise R := by
 rw [List.pairwise_iff_getElem]
 intro i j hi hj hij
 rw [List.length_map, Array.length_toList, r.size] at hi hj
 have get : ∀ k (hk : k < n) h, (p.toList.map fun i => ps.getD i d)[k]'h = ps.getD (p.getD k 0) d := fun k hk h => by
  rw [List.getElem_map]
  congr 1
  simp [Array.getD, r.size, hk]
 rw [get i hi, get j hj]
 exact hlt _ _ (r.lt i hi) (r.lt j hj) (u i j hij hj)
end
open PySem PySem.Spec PyProof.Rows
def xq (N : List Str) (sc scope : Scope) (ix : List Nat) : Bool :=
 decide (scope.kind = .function) && scope.names.all (fun y => decide (y.2 ≠ .cell)) && scope.names.all (fun y => decide (y.2 = .local -> scope.names.lookup y.1 = some .local)) &&
 scope.names.all (fun y => decide (y.2 = .free -> sc.names.lookup y.1 = some .cell \/ sc.names.lookup y.1 = some .free)) &&
 ix.all (fun j => decide (j < N.length) && match N[j]? with | some x => scope.names.any (fun y => decide (y.1 = x) && decide (y.2 = .free)) && decide (scope.names.lookup x = some .free) | none => false)
theorem dL.of {N : List Str} {sc scope : Scope} {own : List Str} {ix : List Nat} (h : xq N sc scope ix = true) : dL N sc scope own ix := by
 unfold xq at h
 simp only [Bool.and_eq_true, decide_eq_true_eq, List.all_eq_true] at h
 obtain ⟨⟨⟨⟨h1, h2⟩, h3⟩, h4⟩, h5⟩ := h
 refine ⟨h1, h2, h3, h4, fun j hj x hx => ?_, fun j hj => (h5 j hj).1⟩
 have := (h5 j hj).2
 rw [hx] at this
 simp only [Bool.and_eq_true, decide_eq_true_eq, List.any_eq_true] at this
 obtain ⟨⟨⟨n, k⟩, hy, e1, e2⟩, e3⟩ := this
 have e1' : n = x := e1
 have e2' : k = .free := e2
 subst e1' e2'
 exact ⟨hy, e3⟩
theorem dG {l N : List Str} (h : l.Nodup) (e : N = l) : N.Nodup := by rw [e]; exact h
structure Def (P : Program) (w : World) (K : PySem.W.Frag) (mg : Str -> Option Value) (base : Heap) (k : Nat) (x : Str) (ps : List Str) (sp : Sp) : Prop where
 ex : ∃ f fd, bi P w K mg base CX0 k f fd ps sp /\ gU K fd ps [] /\ PySem.W.keepIn K (.ref f) = true /\ mg x = some (.ref f)
theorem Def.up {P : Program} {w : World} {K : PySem.W.Frag} {mg : Str -> Option Value} {base : Heap} {j k : Nat} {x : Str} {ps : List Str} {sp : Sp} (d : Def P w K mg base j x ps sp) (h : j <= k) : Def P w K mg base k x ps sp :=
 let ⟨f, fd, F, b, kp, m⟩ := d.ex
 ⟨f, fd, F.mono h, b, kp, m⟩
theorem au {X : Cx} {k : Nat} {x : Str} {ps : List Str} {sp : Sp} {p pos : Pos} {e : Expr} {es : List Expr} {t : TA} (d : Def X.prog X.w X.K X.mg X.base k x ps sp) (hr : dR k X.A) (hg : Gl X x) (ha : PA X (e :: es) t) (hdb : (x == ("__debug__" : Str)) = false := by decide)
  (he : starEach (e :: es) X.env = (false, eval e X.env) :: starEach es X.env := by rfl) (hpl : (backTo pos (starEach es X.env)).any (·.1) = false := by rfl) : PE X (.Call (.Name x p) (e :: es) [] pos) (vf sp [] E0 t) := by
 obtain ⟨f, fd, F, b, kp, m⟩ := d.ex
 exact tV F hr hg m kp b .nil vn ha hdb he hpl
inductive Dv where
 | non | bl (b : Bool) | int (i : Int) | str (x : Str) | tup (xs : List Dv) | lst (xs : List Dv) | dct
mutual
def Rep (H : Hp) : Dv -> V -> Prop
 | .non, v => v = .non
 | .bl b, v => v = .bl b
 | .int i, v => v = .int i
 | .str x, v => v = .str x
 | .tup ds, v => ∃ a vs, v = .ref a /\ H a = some (.tup vs) /\ aj H ds vs
 | .lst ds, v => ∃ a vs, v = .ref a /\ H a = some (.lst vs) /\ aj H ds vs
 | .dct, v => ∃ a, v = .ref a /\ H a = some (.dK [])
def aj (H : Hp) : List Dv -> List V -> Prop
 | [], vs => vs = []
 | d :: ds, vs => ∃ v r, vs = v :: r /\ Rep H d v /\ aj H ds r
end
mutual
theorem Rep.mono {H H' : Hp} (s : ao H H') : ∀ {d : Dv} {v : V}, Rep H d v -> Rep H' d v
 | .non, _, h => by simpa only [Rep] using h
 | .bl b, _, h => by simpa only [Rep] using h
 | .int i, _, h => by simpa only [Rep] using h
 | .str x, _, h => by simpa only [Rep] using h
 | .tup ds, _, h => by
  simp only [Rep] at h ⊢
  obtain ⟨a, vs, e, h1, h2⟩ := h
  exact ⟨a, vs, e, s _ _ h1, aj.mono s h2⟩
 | .lst ds, _, h => by
  simp only [Rep] at h ⊢
  obtain ⟨a, vs, e, h1, h2⟩ := h
  exact ⟨a, vs, e, s _ _ h1, aj.mono s h2⟩
 | .dct, _, h => by
  simp only [Rep] at h ⊢
  obtain ⟨a, e, h1⟩ := h
  exact ⟨a, e, s _ _ h1⟩
theorem aj.mono {H H' : Hp} (s : ao H H') : ∀ {ds : List Dv} {vs : List V}, aj H ds vs -> aj H' ds vs
 | [], _, h => by simpa only [aj] using h
 | d :: ds, _, h => by
  simp only [aj] at h ⊢
  obtain ⟨v, r, e, h1, h2⟩ := h
  exact ⟨v, r, e, Rep.mono s h1, aj.mono s h2⟩
end
theorem aj.length {H : Hp} : ∀ {ds : List Dv} {vs : List V}, aj H ds vs -> vs.length = ds.length
 | [], _, h => by simp only [aj] at h; subst h; rfl
 | d :: ds, _, h => by
  simp only [aj] at h
  obtain ⟨v, r, e, h1, h2⟩ := h
  subst e
  rw [List.length_cons, List.length_cons, aj.length h2]
theorem aj.get {H : Hp} : ∀ {ds : List Dv} {vs : List V}, aj H ds vs -> ∀ {i : Nat} {v : V}, vs[i]? = some v -> ∃ d, ds[i]? = some d /\ Rep H d v
 | [], _, h, i, v, e => by simp only [aj] at h; subst h; simp at e
 | d :: ds, _, h, i, v, e => by
  simp only [aj] at h
  obtain ⟨v', r, e', h1, h2⟩ := h
  subst e'
  cases i with
  | zero => exact ⟨d, rfl, by have : v' = v := by simpa using e
                              subst this; exact h1⟩
  | succ i => obtain ⟨d', e1, e2⟩ := aj.get h2 (i := i) (v := v) (by simpa using e); exact ⟨d', by simpa using e1, e2⟩
def Dv.tn : Dv -> String
 | .non => "NoneType" | .bl _ => "bool" | .int _ => "int" | .str _ => "str" | .tup _ => "tuple" | .lst _ => "list" | .dct => "dict"
theorem Rep.ty {K : PySem.W.Frag} {H : Hp} {d : Dv} {v : V} (h : Rep H d v) : fJ K H v (.type d.tn) := by
 cases d with
 | non => simp only [Rep] at h; subst h; exact .non
 | bl b => simp only [Rep] at h; subst h; exact .bl b
 | int i => simp only [Rep] at h; subst h; exact .int i
 | str x => simp only [Rep] at h; subst h; exact .str x
 | tup ds => simp only [Rep] at h; obtain ⟨a, vs, rfl, h1, _⟩ := h; exact .tup h1
 | lst ds => simp only [Rep] at h; obtain ⟨a, vs, rfl, h1, _⟩ := h; exact .lst h1
 | dct => simp only [Rep] at h; obtain ⟨a, rfl, h1⟩ := h; exact .dK h1
def isT (d : Dv) (n : String) : Bool := d.tn == n || (d.tn == "bool" && n == "int")
theorem ue (K : PySem.W.Frag) (d : Dv) : PySem.W.kitOne K (.type d.tn) (.type "int") = some (isT d "int") := by
 unfold PySem.W.kitOne PySem.W.kitCls
 cases d <;> kernel_rfl
theorem lh (K : PySem.W.Frag) (d : Dv) : PySem.W.kitOne K (.type d.tn) (.type "bool") = some (isT d "bool") := by
 unfold PySem.W.kitOne PySem.W.kitCls
 cases d <;> kernel_rfl
theorem jR (K : PySem.W.Frag) (d : Dv) : PySem.W.kitOne K (.type d.tn) (.type "str") = some (isT d "str") := by
 unfold PySem.W.kitOne PySem.W.kitCls
 cases d <;> kernel_rfl
theorem dh (K : PySem.W.Frag) (d : Dv) : PySem.W.kitOne K (.type d.tn) (.type "tuple") = some (isT d "tuple") := by
 unfold PySem.W.kitOne PySem.W.kitCls
 cases d <;> kernel_rfl
theorem lM (K : PySem.W.Frag) (d : Dv) : PySem.W.kitOne K (.type d.tn) (.type "list") = some (isT d "list") := by
 unfold PySem.W.kitOne PySem.W.kitCls
 cases d <;> kernel_rfl
section
variable {k : Nat} {ix : List Nat} {g : TG} {tt : TT} {te : TE} {σ : St} {H1 : Hp} {Q : List V -> Hp -> Prop}
theorem nq {f F : Nat -> V} {n : Nat} (hs : ∀ i ys, i < n -> ys.length = i -> dQ k ix g tt te σ (f i) ys H1 fun ys' H' => ys' = ys ++ [F i] /\ H' = H1) (hd : Q ((List.range n).map F) H1) : rLC (Itf f n) k ix g tt te σ H1 Q := by
 refine ⟨fun i m ys H => m = n - i /\ i <= n /\ H = H1 /\ ys = (List.range i).map F, ⟨n, by simp, Nat.zero_le _, rfl, rfl⟩, ?_⟩
 rintro i m ys H ⟨rfl, hi, rfl, rfl⟩
 by_cases hlt : i < n
 ·refine .inr ⟨hlt, fun ys' H' => ys' = (List.range i).map F ++ [F i] /\ H' = H, fun ys' H' ⟨e1, e2⟩ => ⟨n - (i + 1), by omega, rfl, hlt, e2, by rw [e1, List.range_succ, List.map_append]; rfl⟩, fun x H' y => ?_⟩
  obtain ⟨e, y⟩ := y
  subst e y
  exact hs i _ hlt (by simp)
 ·have e : i = n := by omega
  subst e
  exact .inl ⟨rfl, hd⟩
theorem jP {F : Nat -> V} {lo : Int} {n : Nat} (hs : ∀ i ys, i < n -> ys.length = i -> dQ k ix g tt te σ (.int (lo + i)) ys H1 fun ys' H' => ys' = ys ++ [F i] /\ H' = H1) (hd : Q ((List.range n).map F) H1) : rLC (Itr lo n) k ix g tt te σ H1 Q := by
 refine ⟨fun i m ys H => m = n - i /\ i <= n /\ H = H1 /\ ys = (List.range i).map F, ⟨n, by simp, Nat.zero_le _, rfl, rfl⟩, ?_⟩
 rintro i m ys H ⟨rfl, hi, rfl, rfl⟩
 by_cases hlt : i < n
 ·refine .inr ⟨hlt, fun ys' H' => ys' = (List.range i).map F ++ [F i] /\ H' = H, fun ys' H' ⟨e1, e2⟩ => ⟨n - (i + 1), by omega, rfl, hlt, e2, by rw [e1, List.range_succ, List.map_append]; rfl⟩, fun x H' y => ?_⟩
  obtain ⟨e, y⟩ := y
  subst e y
  exact hs i _ hlt (by simp)
 ·have e : i = n := by omega
  subst e
  exact .inl ⟨Nat.le_refl _, hd⟩
theorem cn {i : Nat} {x : V} {ys : List V} {H : Hp} {N : List V -> Hp -> Prop} (h : te ((dO k ix σ).set i (some x)) H fun y H4 => ys.length < sizeLine /\ N (ys ++ [y]) H4) : dQ k ix (dU i) vR te σ x ys H N := by
 exact aO (B := N ys H) h
theorem iq {i j : Nat} {K : PySem.W.Frag} {a : Addr} {x y : V} {ys : List V} {H : Hp} {N : List V -> Hp -> Prop} (ha : H a = some (.tup [x, y])) (h : te (((dO k ix σ).set i (some x)).set j (some y)) H fun y H4 => ys.length < sizeLine /\ N (ys ++ [y]) H4) :
  dQ k ix (uL K 2 (gW (dU i) (gW (dU j) qc))) vR te σ (.ref a) ys H N := by
 refine ⟨a, _, rfl, SqT.of ha, rfl, _, _, rfl, _, _, rfl, rfl, ?_⟩
 exact aO (B := N ys H) h
theorem uB {f : Nat -> V} {n : Nat} {g : TG} {tb : TS} {D : dc} {σ : St} {H : Hp} (Pv : Nat -> St -> Hp -> Prop) (h0 : Pv 0 σ H)
  (hs : ∀ i σ H, i < n -> Pv i σ H -> g (f i) σ H fun σ2 H2 => tb { D with nx := Pv (i + 1), ct := Pv (i + 1), bk := D.nx } σ2 H2) (hd : ∀ σ H, Pv n σ H -> D.nx σ H) :
  ∃ W : Nat -> Nat -> St -> Hp -> Prop, (∃ m, W 0 m σ H) /\ ∀ i m σ H, W i m σ H ->
   ((Itf f n).stop i H /\ D.nx σ H) \/ ((Itf f n).go i H /\ ∃ N : St -> Hp -> Prop, (∀ σ' H', N σ' H' -> ∃ m', m' < m /\ W (i + 1) m' σ' H') /\ ∀ x H', (Itf f n).yld i H x H' -> g x σ H' fun σ2 H2 => tb { D with nx := N, ct := N, bk := D.nx } σ2 H2) := by
 refine ⟨fun i m σ H => m = n - i /\ i <= n /\ Pv i σ H, ⟨n, by simp, Nat.zero_le _, h0⟩, ?_⟩
 rintro i m σ H ⟨rfl, hi, p⟩
 by_cases hlt : i < n
 ·refine .inr ⟨hlt, Pv (i + 1), fun σ' H' p' => ⟨n - (i + 1), by omega, rfl, hlt, p'⟩, fun x H' y => ?_⟩
  obtain ⟨e, y⟩ := y
  subst e y
  exact hs i σ _ hlt p
 ·have e : i = n := by omega
  subst e
  exact .inl ⟨rfl, hd σ H p⟩
theorem eN {K : PySem.W.Frag} {a : Addr} {xs : List V} {g : TG} {tb : TS} {D : dc} {σ : St} {H : Hp} (Pv : Nat -> St -> Hp -> Prop) (h0 : Pv 0 σ H) (hl : ∀ i σ H, i <= xs.length -> Pv i σ H -> SqL K H a xs)
  (hs : ∀ i x σ H p, xs[i]? = some x -> Pv i σ H -> H p = none -> g (.ref p) σ (upd H p (.tup [.int i, x])) fun σ2 H2 => tb { D with nx := Pv (i + 1), ct := Pv (i + 1), bk := D.nx } σ2 H2) (hd : ∀ σ H, Pv xs.length σ H -> D.nx σ H) :
  ∃ W : Nat -> Nat -> St -> Hp -> Prop, (∃ m, W 0 m σ H) /\ ∀ i m σ H, W i m σ H ->
   ((Ite K a).stop i H /\ D.nx σ H) \/ ((Ite K a).go i H /\ ∃ N : St -> Hp -> Prop, (∀ σ' H', N σ' H' -> ∃ m', m' < m /\ W (i + 1) m' σ' H') /\ ∀ x H', (Ite K a).yld i H x H' -> g x σ H' fun σ2 H2 => tb { D with nx := N, ct := N, bk := D.nx } σ2 H2) := by
 refine ⟨fun i m σ H => m = xs.length - i /\ i <= xs.length /\ Pv i σ H, ⟨xs.length, by simp, Nat.zero_le _, h0⟩, ?_⟩
 rintro i m σ H ⟨rfl, hi, p⟩
 have q := hl i σ H hi p
 by_cases hlt : i < xs.length
 ·refine .inr ⟨⟨xs, xs[i], q, by simp [hlt]⟩, Pv (i + 1), fun σ' H' p' => ⟨xs.length - (i + 1), by omega, rfl, hlt, p'⟩, fun x H' y => ?_⟩
  obtain ⟨b, y, hb, e1, e2, hy⟩ := y
  subst e1 e2
  exact hs i y σ H b (hy xs q) p hb
 ·have e : i = xs.length := by omega
  subst e
  exact .inl ⟨⟨xs, q, Nat.le_refl _⟩, hd σ H p⟩
end
mutual
def Dv.small : Dv -> Bool
 | .str x => decide (x.cps.size <= 1000)
 | .tup xs => bb xs && decide (xs.length <= 1000)
 | .lst xs => bb xs && decide (xs.length <= 1000)
 | _ => true
def bb : List Dv -> Bool
 | [] => true
 | d :: ds => d.small && bb ds
end
theorem dB : ∀ {ds : List Dv}, bb ds = true -> ∀ {i : Nat} {d : Dv}, ds[i]? = some d -> d.small = true
 | [], _, i, d, e => by simp at e
 | x :: ds, h, i, d, e => by
  simp only [bb, Bool.and_eq_true] at h
  cases i with
  | zero =>
   have e' : x = d := by simpa using e
   subst e'; exact h.1
  | succ i => exact dB h.2 (i := i) (by simpa using e)
theorem uG {x : Str} (h : x.cps.size <= 1000) : x.length <= sizeLine := Nat.le_of_lt (jm h)
theorem af {H : Hp} {p : Addr} (h : H p = none) (o : HO) : ao H (upd H p o) := fun b u q => by rw [aE (am q h)]; exact q
theorem sq {n : Nat} (h : n <= 1000) : n <= sizeLine := Nat.le_of_lt (jm h)
section
variable {X : Cx}
theorem lL (K : PySem.W.Frag) (h : X.K = K) : IxR X (tM K) := by subst h; exact br
theorem uN (K : PySem.W.Frag) (h : X.K = K) : IxR X (sy K) := by subst h; exact aB
end
section
variable {X : Cx}
end
def gZ (t : TE) (σ : St) (H : Hp) (d : Dv) : Prop := ∀ H1, ao H H1 -> ∀ Q : VK, (∀ H' v, ao H1 H' -> Rep H' d v -> Q v H') -> t σ H1 Q
def lE (t : TA) (σ : St) (H : Hp) (ds : List Dv) : Prop := ∀ H1, ao H H1 -> ∀ Q : List V -> Hp -> Prop, (∀ H' vs, ao H1 H' -> aj H' ds vs -> Q vs H') -> t σ H1 Q
section
variable {σ : St} {H : Hp} {d e : Dv} {ds es : List Dv} {ta tb : TE} {t : TA}
theorem bf : lE xf σ H [] := fun H1 s Q q => q H1 [] (ao.refl _) (by simp [aj])
theorem aw (h1 : gZ ta σ H d) (h2 : lE t σ H ds) : lE (vD ta t) σ H (d :: ds) := fun H1 s Q q =>
 h1 H1 s _ fun H2 v s2 R => h2 H2 (s.trans s2) _ fun H3 vs s3 Rs => q H3 (v :: vs) (s2.trans s3) (by simp only [aj]; exact ⟨v, vs, rfl, R.mono s3, Rs⟩)
theorem bv (h : lE t σ H ds) (hz : ds.length <= 1000) : gZ (wY t) σ H (.tup ds) := fun H1 s Q q =>
 h H1 s _ fun H2 vs s2 Rs => ⟨by rw [Rs.length]; exact sq hz, fun p hp => q _ (.ref p) (s2.trans (af hp _)) (by simp only [Rep]; exact ⟨p, vs, rfl, ad, Rs.mono (af hp _)⟩)⟩
theorem rk (h : lE t σ H ds) (hz : ds.length <= 1000) : gZ (xi t) σ H (.lst ds) := fun H1 s Q q =>
 h H1 s _ fun H2 vs s2 Rs => ⟨by rw [Rs.length]; exact sq hz, fun p hp => q _ (.ref p) (s2.trans (af hp _)) (by simp only [Rep]; exact ⟨p, vs, rfl, ad, Rs.mono (af hp _)⟩)⟩
theorem bS {x : Str} : gZ (tC (.str x)) σ H (.str x) := fun H1 _ Q q => q H1 _ (ao.refl _) (by simp [Rep])
theorem eU {i : Nat} {v : V} (hv : σ[i]? = some (some v)) (R : Rep H d v) : gZ (je i) σ H d := fun H1 s Q q => ⟨v, hv, q H1 v (ao.refl _) (R.mono s)⟩
theorem aj.append {H : Hp} : ∀ {ds es : List Dv} {vs ws : List V}, aj H ds vs -> aj H es ws -> aj H (ds ++ es) (vs ++ ws)
 | [], _, _, _, h, g => by simp only [aj] at h; subst h; exact g
 | d :: ds, es, vs, ws, h, g => by
  simp only [aj] at h
  obtain ⟨v, r, rfl, h1, h2⟩ := h
  simp only [List.cons_append, aj]
  exact ⟨v, r ++ ws, rfl, h1, aj.append h2 g⟩
end
def bx (H : Hp) (l : Addr) : Hp := fun b => if b = l then none else H b
theorem bW {H : Hp} {l : Addr} : ao (bx H l) H := fun b o h => by
 unfold bx at h
 by_cases e : b = l
 ·rw [if_pos e] at h; cases h
 ·rw [if_neg e] at h; exact h
theorem bT {H H' : Hp} {l : Addr} (s : ao H H') : ao (bx H l) (bx H' l) := fun b o h => by
 unfold bx at h ⊢
 by_cases e : b = l
 ·rw [if_pos e] at h; cases h
 ·rw [if_neg e] at h ⊢; exact s b o h
theorem gk {H H' : Hp} {l : Addr} (s : ao H H') (hl : H l = none) : ao H (bx H' l) := fun b o h => by
 unfold bx
 rw [if_neg (am h hl)]
 exact s b o h
theorem qz {H : Hp} {l p : Addr} {o : HO} (hl : H l ≠ none) (hp : H p = none) : bx (upd H p o) l p = some o /\ ao (bx H l) (bx (upd H p o) l) := by
 have ne : p ≠ l := fun e => hl (e ▸ hp)
 refine ⟨?_, bT (af hp o)⟩
 unfold bx
 rw [if_neg ne, ad]
section
variable {σ : St} {H : Hp} {d e : Dv} {ds es : List Dv} {ta tb : TE} {t : TA} {l : Addr}
variable {i : Nat} {u : TS} {D : dc}
theorem rj (h : gZ ta σ H d) (k : ∀ H' v, ao H H' -> Rep H' d v -> u D (σ.set i (some v)) H') : uz (uy ta (dU i)) u D σ H := h H (ao.refl H) _ k
end
section
variable {X : Cx}
end
section
variable {prog : Program} {w : World} {K : Type} [DecidableEq K] {knd : PySem.KeyKind prog w K} {A : Around} {R : Result -> Shared -> Prop} {I d : Addr} {fp wr : List Addr} {n : Nat} {P : Nat -> Value -> Prop} {St : Nat -> Heap -> Prop}
end
section
variable {prog : Program} {w : World} {K : Type} [DecidableEq K] {knd : PySem.KeyKind prog w K} {A : Around} {E : Value -> Shared -> Prop} {s : Shared}
end
section
variable {X : Cx}
end
section
variable {X : Cx}
end
open PySem PySem.Spec PyProof.Rows PySem.W
section
variable {X : Cx} {pins : List (Addr × Obj)} {σ : St} {H : Hp} {s : Shared}
theorem Inv.setList {D : Addr} {ys0 ys : List V} {its : List Value} {c : Nat} {h' : Heap} {m : Str -> Option Value} (I : Inv X pins σ H s) (hm : s.heap.Ns X.env.locals m) (hD : H D = some (.lst ys0)) (rv : aL ys its) (hz : ys.length <= sizeLine)
  (F : h'.Ns X.env.locals m) (k : ∀ b o, b ≠ X.env.locals -> b ≠ D -> s.heap.get? b = some o -> h'.get? b = some o) (e : h'.get? D = some { cls := .type "list", data := .seq its.toArray c }) : Inv X pins σ (upd H D (.lst ys)) { s with heap := h' } := by
 have nl : ∀ b v, H b = some v -> b ≠ X.env.locals := fun b v q z => by rw [z, I.free] at q; cases q
 have nD : ∀ b, H b = none -> b ≠ D := fun b q z => by rw [z, hD] at q; cases q
 have nT : ∀ b v, H b = some v -> v ≠ .lst ys0 -> b ≠ D := fun b v q n z => by rw [z, hD] at q; cases q; exact n rfl
 refine I.step (g' := s.gens) (d' := s.drawn) (t' := s.toks) (ch := []) (fun b hb => by cases hb) (fun b o hL _ _ q n => k b o hL (nD b n) q) (fun b o hL _ _ q n => ⟨o.slots, k b o hL (nD b n) q⟩) (fun b o _ q n => by rw [aE (nD b n)]; exact n) (fun b o _ q => ?_)
  (fun b xs q => by rw [aE (nT b _ q nofun)]; exact q) (fun b o v q => by rw [aE (nT b _ q nofun)]; exact q) (fun b ps q => ⟨#[], by rw [aE (nT b _ q nofun), q]; simp⟩) (fun m' hm' => by rw [wG hm' hm]; exact F) (fun b v q => ?_) I.bare
 ·by_cases hb : b = X.env.locals
  ·subst hb
   obtain ⟨o', _, _, q', _⟩ := F
   exact ⟨o', q'⟩
  ·by_cases hd : b = D
   ·subst hd; exact ⟨_, e⟩
   ·exact ⟨o, k b o hb hd q⟩
 ·by_cases hb : b = D
  ·subst hb
   rw [ad] at q
   cases q
   exact ⟨hz, its, c, rv, e⟩
  ·rw [aE hb] at q
   refine (I.hok b v q).stay (fun c w' hc q' => ?_) (fun c q' => by rw [aE (nT c _ q' nofun)]; exact q') fun c xs q' => by rw [aE (nT c _ q' nofun)]; exact q'
   rcases hc with z | z
   ·subst z; exact k c w' (nl c v q) hb q'
   ·exact k c w' (nl c _ z) (nT c _ z nofun) q'
theorem rT {A : Around} {E : Value -> Shared -> Prop} {l : Addr} {ps : List TK} {Q : Value -> Shared -> Prop} (I : Inv X pins σ H s) (hq : H l = some (.lst (ps.map fun p => V.ref p.1))) (ht : ∀ p ∈ ps, H p.1 = some (.tup (.str p.2.1 :: p.2.2)))
  (nd : (ps.map (·.2.1)).Nodup) (h64 : ps.length < 64) (q : ∀ (qs : List TK) (h' : Heap), qs.Perm ps -> qs.Pairwise rg -> Inv X pins σ (upd H l (.lst (qs.map fun p => V.ref p.1))) { s with heap := h' } -> Q .none { s with heap := h' }) :
  wpAny (model X.prog X.w) A (call (.builtin "list.sort") [.ref l]) Q E s := by
 obtain ⟨hz, its, n, rv, at0⟩ := (show bo X.prog X.w H s.heap l (.lst (ps.map fun p => V.ref p.1)) from I.hok l _ hq)
 have ei := tU ps its rv
 subst ei
 obtain ⟨m, hm, _⟩ := I.loc
 have nL : l ≠ X.env.locals := fun z => by rw [z, I.free] at hq; cases hq
 have lne : ∀ p ∈ ps, p.1 ≠ l /\ p.1 ≠ X.env.locals := fun p hp => by
  refine ⟨fun z => ?_, fun z => ?_⟩
  ·have t := ht p hp
   rw [z, hq] at t
   cases t
  ·have t := ht p hp
   rw [z, I.free] at t
   cases t
 by_cases few : ps.length < 2
 ·refine wpAny_call_entry slot_list_sort ⟨_, at0, rfl⟩ entry_list_sort (ji at0 (by simpa using few) fun hp ep k2 e2 => ⟨_, rfl, ?_⟩) (args_list_sort _)
  refine q ps hp (List.Perm.refl _) ?_ (I.setList hm hq (gs ps) hz (hm.at' fun o e => k2 _ o (Ne.symm nL) e) (fun b o _ hb z => k2 b o hb z) e2)
  match ps, few with
  | [], _ => exact .nil
  | [p], _ => exact List.pairwise_singleton _ _
 ·have hlen : (ps.map fun p => Value.ref p.1).length = ps.length := List.length_map _
  have F0 : Fr (Att.noObjs s.heap) X.env.locals s.heap m := Att.fr_all hm
  generalize hN : (hU (Att.noObjs s.heap) s.heap X.env.locals).filter (fun p => decide (p.1 ≠ l)) = nw
  have N0 : News (Att.noObjs s.heap) X.env.locals s.heap nw := fun p hp => by rw [<- hN] at hp; exact su p (List.mem_filter.mp hp).1
  have nl0 : ∀ p ∈ nw, p.1 ≠ l := fun p hp => by rw [<- hN] at hp; exact of_decide_eq_true (List.mem_filter.mp hp).2
  refine wpAny_call_entry slot_list_sort ⟨_, at0, rfl⟩ entry_list_sort (kat_list_sort F0 N0 at0 nL (Att.noObjs_get _ _) nl0 (by rw [hlen]; omega) (by rw [hlen]; exact h64) fun e1 h' F' N' => ?_) (args_list_sort _)
  have keep : ∀ (g : Heap) (x : Obj), News (Att.noObjs s.heap) X.env.locals g ((l, x) :: nw) -> ∀ b o, b ≠ X.env.locals -> b ≠ l -> s.heap.get? b = some o -> g.get? b = some o := fun g x N b o hb hl e =>
   (N (b, o) (List.mem_cons_of_mem _ (by rw [<- hN]; exact List.mem_filter.mpr ⟨lN hb (Att.noObjs_get _ _) e, decide_eq_true hl⟩))).1
  have kp := keep h' _ N'
  have atv : ∀ i, i < ps.length -> (ps.map fun p => Value.ref p.1).getD i .none = Value.ref (ps.getD i (0, default, [])).1 := fun i hi => by
   simp [List.getD, hi]
  have item : ∀ i, i < ps.length -> ∃ (o : Obj) (us : List Value) (n : Nat) (t : Tok), h'.get? (ps.getD i (0, default, [])).1 = some o /\ o.cls = .type "tuple" /\ o.data = .seq (Value.str (ps.getD i (0, default, [])).2.1 t :: us).toArray n := fun i hi => by
   have hm' : ps.getD i (0, default, []) ∈ ps := by
    have e : ps.getD i (0, default, []) = ps[i] := by simp [List.getD, hi]
    rw [e]; exact List.getElem_mem hi
   obtain ⟨o, us, n, t, e, c, d⟩ := sL I (ht _ hm')
   exact ⟨o, us, n, t, kp _ o (lne _ hm').2 (lne _ hm').1 e, c, d⟩
  have firsts : ∀ (qs : List TK), (∀ p ∈ qs, p ∈ ps) -> ∃ fs : List Value, KatTups h' (qs.map fun p => Value.ref p.1) fs /\ fs.length = qs.length /\ ∀ v ∈ fs, ∃ x t, v = Value.str x t := by
   intro qs
   induction qs with
   | nil => intro _; exact ⟨[], KatTups.nil, rfl, by simp⟩
   | cons p qs ih =>
    intro hs
    obtain ⟨fs, t1, t2, t3⟩ := ih fun x hx => hs x (List.mem_cons_of_mem _ hx)
    have hp := hs p List.mem_cons_self
    obtain ⟨o, us, n, t, e, c, d⟩ := sL I (ht _ hp)
    refine ⟨Value.str p.2.1 t :: fs, KatTups.cons (kp _ o (lne _ hp).2 (lne _ hp).1 e) c d (by simp) t1, by simp [t2], fun v hv => ?_⟩
    rcases List.mem_cons.mp hv with rfl | hv
    ·exact ⟨_, _, rfl⟩
    ·exact t3 v hv
  obtain ⟨fs, t1, t2, t3⟩ := firsts ps fun p hp => hp
  refine kat_kind (T := .type "str") (s := { s with heap := h' }) t1 (by rw [t2]; omega) (fun v hv => ?_) (by decide) ?_
  ·obtain ⟨x, t, rfl⟩ := t3 v hv
   exact Looks.of_pure rfl
  rw [hlen]
  have O : Ord (kas_ask X.prog X.w A.in1 (tuples' (Value.type "str" != Value.type "tuple")) (ps.map fun p => Value.ref p.1)) (fun i j => decide ((ps.getD i (0, default, [])).2.1.cps.toList < (ps.getD j (0, default, [])).2.1.cps.toList)) ps.length { s with heap := h' } := by
   have unlike : ∀ i j, i < ps.length -> j < ps.length -> i ≠ j -> (ps.getD i (0, default, [])).2.1 ≠ (ps.getD j (0, default, [])).2.1 := fun i j hi hj hij e => by
    have ei : ps.getD i (0, default, []) = ps[i] := by simp [List.getD, hi]
    have ej : ps.getD j (0, default, []) = ps[j] := by simp [List.getD, hj]
    rw [ei, ej] at e
    exact hij ((List.getElem_inj (h₀ := by simpa using hi) (h₁ := by simpa using hj) nd).mp (by simpa using e))
   refine ⟨fun i j C hi hj hij hC => ?_, fun i j k h1 h2 => ?_, fun i j hi hj hij h1 => ?_, fun i j h1 => ?_⟩
   ·show wpAny _ _ (keyLt' _ _ _) C _ _
    rw [atv i hi, atv j hj]
    obtain ⟨o, us, n, t, e, c, d⟩ := item i hi
    obtain ⟨o2, us2, n2, t2', e2, c2, d2⟩ := item j hj
    refine kat_lt (s := { s with heap := h' }) e d e2 d2 ?_
    show KatLex _ _ _ _ _ _ ((Value.str _ t, Value.str _ t2') :: _) 0 _
    refine kat_cons (wpAny_eqBool_str ?_)
    rw [decide_eq_false (unlike i j hi hj hij)]
    exact kat_no (oneLt_str hC)
   ·exact decide_eq_true (List.lt_trans (of_decide_eq_true h1) (of_decide_eq_true h2))
   ·exact decide_eq_true (uZ (of_decide_eq_false h1) fun e => unlike i j hi hj hij (uJ e))
   ·exact decide_eq_false (List.lt_asymm (of_decide_eq_true h1))
  refine uV O (by omega) fun p re up => ?_
  have outs : (p.toList.map fun i => (ps.map fun p => Value.ref p.1).getD i .none) = (p.toList.map fun i => ps.getD i (0, default, [])).map fun p => Value.ref p.1 := by
   rw [List.map_map]
   refine List.map_congr_left fun i hi => ?_
   have hl2 : p.toList.Perm (List.range ps.length) := by simpa using Array.perm_iff_toList_perm.mp re.perm
   exact atv i (List.mem_range.mp ((List.Perm.mem_iff hl2).mp hi))
  rw [outs]
  refine KasFin.intro (news := (l, seqObj "list" #[] e1) :: nw) (g := fun o' => (l, o') :: nw) F' N' (.head nl0) fun h2 c F2 N2 => ?_
  have pq := pR (d := (0, default, [])) rfl re
  have I2 := I.setList (D := l) (ys := (p.toList.map fun i => ps.getD i (0, default, [])).map fun p => V.ref p.1) hm hq (gs _) (by rw [List.length_map, pq.length_eq]; simpa using hz) F2.ns (keep h2 _ N2) (N2 (l, _) List.mem_cons_self).1
  exact ⟨_, rfl, q _ h2 pq (jb (R := rg) (fun i j _ _ h => (of_decide_eq_true h : (ps.getD i (0, default, [])).2.1.cps.toList < (ps.getD j (0, default, [])).2.1.cps.toList)) re up) I2⟩
def gY (v d : Addr) : HO := .ext fun h => h.IsItemsView v d
theorem rW : MtR X "dict.items" (fun x xs H Q => ∃ d kvs, x = .ref d /\ xs = [] /\ H d = some (.dK kvs) /\ ∀ v, H v = none -> Q (.ref v) (upd H v (gY v d))) := by
 intro pins s σ H x xs u us Q I rx rv h
 obtain ⟨d, kvs, rfl, rfl, hd, q⟩ := h
 cases rx
 cases rv
 obtain ⟨z, hdm, vs, rel, dd⟩ := tu I.hok hd
 refine call_meetsIn PySem.F.slot_dict_items dd.typeIs PySem.F.entry_dict_items (PySem.F.args_dict_items_1 _) (meets_dict_items (be X.prog X.w) d hdm) ⟨⟨vs, dd⟩, ?_⟩
 refine ⟨.ref s.heap.objs.size, _, I.laid (t' := s.toks) (a := s.heap.objs.size) (o := gY s.heap.objs.size d) (fun b u q => Heap.get?_push_of_some _ q) (Nat.le_refl _) ?_, rfl, q _ I.fresh⟩
 exact ⟨⟨_, Heap.get?_push_size _ rfl, rfl, rfl⟩, ⟨_, Heap.get?_push_size _ rfl⟩, fun h1 h2 ⟨o, e, r⟩ k => ⟨o, k o e, r⟩⟩
def lays (H : Hp) (rs : List TK) : Hp := fun b => match rs.find? (fun r => decide (r.1 = b)) with | some r => some (.tup (.str r.2.1 :: r.2.2)) | none => H b
theorem iN {rs : List TK} {b : Addr} (h : ∀ r ∈ rs, r.1 ≠ b) : lays H rs b = H b := by
 unfold lays
 rw [List.find?_eq_none.mpr (fun r hr e => h r hr (of_decide_eq_true e))]
theorem pr {rs : List TK} (nd : (rs.map (·.1)).Nodup) {r : TK} (hr : r ∈ rs) : lays H rs r.1 = some (.tup (.str r.2.1 :: r.2.2)) := by
 unfold lays
 cases e : rs.find? (fun x => decide (x.1 = r.1)) with
 | none => exact absurd (decide_eq_true rfl) (List.find?_eq_none.mp e r hr)
 | some x =>
  have hx := List.mem_of_find?_eq_some e
  have e1 : x.1 = r.1 := of_decide_eq_true (List.find?_some (p := fun x : TK => decide (x.1 = r.1)) e)
  obtain ⟨i, hi, rfl⟩ := List.getElem_of_mem hx
  obtain ⟨j, hj, rfl⟩ := List.getElem_of_mem hr
  have : i = j := (List.getElem_inj (h₀ := by simpa using hi) (h₁ := by simpa using hj) nd).mp (by simpa using e1)
  subst this
  rfl
theorem Inv.lays {h' : Heap} {tk : Nat} {rs : List TK} (I : Inv X pins σ H s) (k : ∀ b u, s.heap.get? b = some u -> h'.get? b = some u) (nd : (rs.map (·.1)).Nodup) (hp : ∀ r ∈ rs, s.heap.objs.size <= r.1)
  (new : ∀ r ∈ rs, bo X.prog X.w (L2.lays H rs) h' r.1 (.tup (.str r.2.1 :: r.2.2))) : Inv X pins σ (L2.lays H rs) { s with heap := h', toks := tk } := by
 have out : ∀ b, b < s.heap.objs.size -> L2.lays H rs b = H b := fun b hb => iN fun r hr e => absurd hb (Nat.not_lt.mpr (e ▸ hp r hr))
 refine I.un (t' := tk) ⟨fun b u q _ _ _ => k b u q, fun b u q _ _ _ => ⟨u.slots, k b u q⟩, fun b u q n _ => by rw [out b (Heap.lt_size q)]; exact n, fun b u q _ => ⟨u, k b u q⟩, fun b xs q => by rw [out b (I.hok.lt q)]; exact q, fun b u xs q => by rw [out b (I.hok.lt q)]; exact q,
  fun b ps q => ⟨#[], by rw [out b (I.hok.lt q), q]; simp⟩⟩ fun b u e => ?_
 by_cases hb : ∃ r ∈ rs, r.1 = b
 ·obtain ⟨r, hr, rfl⟩ := hb
  rw [pr nd hr] at e
  cases e
  exact new r hr
 ·rw [iN fun r hr z => hb ⟨r, hr, z⟩] at e
  exact (I.hok b u e).stay (fun c v _ q => k c v q) (fun c q => by rw [out c (I.hok.lt q)]; exact q) fun c xs q => by rw [out c (I.hok.lt q)]; exact q
theorem kQ (hc : X.calm = true) : dP X (.builtin "sorted") (fun xs H Q => ∃ (v d : Addr) (m : List (Str × V)), xs = [.ref v] /\ H v = some (gY v d) /\ H d = some (.dK (m.map fun p => ((Sum.inr p.1 : Key), p.2))) /\ m.length < 64 /\
  ∀ (H' : Hp) (l : Addr) (qs : List TK), ao H H' -> H l = none -> (∀ r ∈ qs, H' r.1 = some (.tup (.str r.2.1 :: r.2.2)) /\ H r.1 = none) -> H' l = some (.lst (qs.map fun r => V.ref r.1)) -> (qs.map (·.2)).Perm (m.map fun p => (p.1, [p.2])) -> qs.Pairwise rg -> Q (.ref l) H') := by
 intro pins s σ H xs us Q I r h
 obtain ⟨v, d, m, rfl, hv, hd, h64, q⟩ := h
 obtain ⟨u, rfl, ru⟩ := fm r
 cases ru
 obtain ⟨vw, _, _⟩ := (show bo X.prog X.w H s.heap v (gY v d) from I.hok v _ hv)
 obtain ⟨z, hdm, vs, rel, dd⟩ := tu I.hok hd
 have hvl : vs.length = m.length := by have := rel.length; rw [List.length_map] at this; exact this.symm
 obtain ⟨ep, da⟩ := dd.dictAt
 have ndk : (vs.map (·.1)).Nodup := by obtain ⟨_, _, _, _, _, _, _, nd⟩ := da; exact nd
 refine Calls.call_function_entry kind_sorted plain_sorted entry_sorted (args_sorted1 _) ?_
 unfold Builtin.«sorted»
 refine wpAny_bind (m := checkCount "sorted" 1 1 _) (wpAny_pure (wpAny_bind (kdx_collect (A := X.A.in1) (knd := be X.prog X.w) (kvs := vs) (ep := ep) (I.ok.hd hc) vw da (by rw [<- rel.length]; exact z) fun h' tk as hk hl hG => ?_)))
 have hlm : as.length = m.length := by omega
 have e1 : ((as.zip m).map fun p => ((p.1, p.2.1, [p.2.2]) : TK)).map (·.1) = as := by
  rw [List.map_map]
  have : ((fun x : TK => x.1) ∘ fun p : Addr × Str × V => ((p.1, p.2.1, [p.2.2]) : TK)) = Prod.fst := rfl
  rw [this, List.map_fst_zip (by omega)]
 have e2 : ((as.zip m).map fun p => ((p.1, p.2.1, [p.2.2]) : TK)).map (·.2) = m.map fun p => (p.1, [p.2]) := by
  rw [List.map_map]
  have : ((fun x : TK => x.2) ∘ fun p : Addr × Str × V => ((p.1, p.2.1, [p.2.2]) : TK)) = (fun p : Str × V => (p.1, [p.2])) ∘ Prod.snd := rfl
  rw [this, <- List.map_map, List.map_snd_zip (by omega)]
 have e3 : ((as.zip m).map fun p => ((p.1, p.2.1, [p.2.2]) : TK)).map (fun r => V.ref r.1) = as.map V.ref := by
  have : (fun r : TK => V.ref r.1) = V.ref ∘ (fun r : TK => r.1) := rfl
  rw [this, <- List.map_map, e1]
 have pairs : ∀ r ∈ (as.zip m).map fun p => ((p.1, p.2.1, [p.2.2]) : TK), ∃ (x : Str) (y : V) (u w' : Value), r.2 = (x, [y]) /\ aQ (.str x) u /\ aQ y w' /\ h'.get? r.1 = some { cls := .type "tuple", data := .seq #[u, w'] } := fun r hr => by
  obtain ⟨⟨a, x, y⟩, hp, rfl⟩ := List.mem_map.mp hr
  obtain ⟨j, hj⟩ := List.getElem?_of_mem hp
  obtain ⟨ha, hm⟩ := List.getElem?_zip_eq_some.mp hj
  obtain ⟨key, k, w', g1, g2, g3⟩ := hG.pairs j a ha
  obtain ⟨y', hy, ry⟩ := rel.at g1
  rw [List.getElem?_map, hm] at hy
  have hy' : ((Sum.inr x : Key), y) = (k, y') := Option.some.inj hy
  injection hy' with k1 k2
  subst k1 k2
  exact ⟨x, y, key, w', rfl, wZ g2, ry, g3⟩
 generalize hrs : (as.zip m).map (fun p => ((p.1, p.2.1, [p.2.2]) : TK)) = rs at e1 e2 e3 pairs
 have lrs : rs.length = m.length := by rw [<- hrs, List.length_map, List.length_zip]; omega
 have nda : (rs.map (·.1)).Nodup := by rw [e1]; exact hG.rise.imp fun h => Nat.ne_of_lt h
 have above : ∀ r ∈ rs, s.heap.objs.size <= r.1 := fun r hr => Nat.le_of_lt (hG.above r.1 (by rw [<- e1]; exact List.mem_map_of_mem hr))
 have tup : ∀ (Hx : Hp) (r : TK), r ∈ rs -> bo X.prog X.w Hx h' r.1 (.tup (.str r.2.1 :: r.2.2)) := fun Hx r hr => by
  obtain ⟨x, y, u, w', er, r1, r2, g⟩ := pairs r hr
  rw [er]
  exact ⟨by show 2 <= sizeLine; rw [sizeLine_eq]; decide, [u, w'], .cons r1 (.cons r2 .nil), ⟨_, g, rfl, 0, rfl⟩, ⟨_, g, rfl⟩⟩
 have I1 : Inv X pins σ (lays H rs) { s with heap := h', toks := tk } := I.lays hk nda above fun r hr => tup _ r hr
 have s1 : ao H (lays H rs) := fun b o e => by
  have ho : ∀ r ∈ rs, r.1 ≠ b := fun r hr z' => by
   have h1 := above r hr
   rw [z'] at h1
   exact absurd (I.hok.lt e) (Nat.not_lt.mpr h1)
  rw [iN ho]; exact e
 refine wpAny_bind (wpAny_newList ?_ (by rw [List.length_map, hlm, sizeLine_eq]; omega))
 have rvals : aL (rs.map fun r => V.ref r.1) (as.map Value.ref) := by
  have := gs rs
  have e4 : rs.map (fun p => Value.ref p.1) = as.map Value.ref := by
   rw [<- e1, List.map_map]; rfl
  rwa [e4] at this
 have I2 := I1.lnew (t' := tk) (its := as.map Value.ref) rvals (by rw [List.length_map, lrs, sizeLine_eq]; omega)
 have fr : lays H rs h'.objs.size = none := I1.fresh
 have s2 : ao (lays H rs) (upd (lays H rs) h'.objs.size (.lst (rs.map fun r => V.ref r.1))) := af fr _
 have inr : ∀ r ∈ rs, lays H rs r.1 = some (.tup (.str r.2.1 :: r.2.2)) := fun r hr => pr nda hr
 have hnone : H h'.objs.size = none := by
  cases e : H h'.objs.size with
  | none => rfl
  | some o => have := s1 _ _ e; rw [fr] at this; cases this
 have nd2 : (rs.map (·.2.1)).Nodup := by
  have e5 : rs.map (·.2.1) = m.map (·.1) := by
   have := congrArg (List.map Prod.fst) e2
   simpa [List.map_map, Function.comp_def] using this
  have e6 : (m.map (·.1)).map (Sum.inr : Str -> Key) = vs.map (·.1) := by
   rw [<- rel.keys, List.map_map, List.map_map]; rfl
  rw [e5]
  rw [<- e6] at ndk
  rw [List.Nodup, List.pairwise_map] at ndk
  exact ndk.imp fun h e => h (by rw [e])
 refine wpAny_bind (wpAny_holding (rT (A := X.A.in1) (l := h'.objs.size) (ps := rs) I2 ad (fun r hr => s2 _ _ (inr r hr)) nd2 (by omega) fun qs h2 pq pw I3 => ?_))
 refine wpAny_pure ⟨_, rfl, .ref h'.objs.size, _, I3, rfl, q _ _ qs (fun b o e => ?_) hnone (fun r hr => ⟨?_, I.hok.fresh (above r (pq.mem_iff.mp hr))⟩) ad (by rw [<- e2]; exact pq.map _) pw⟩
 ·have := s2 _ _ (s1 _ _ e)
  rw [aE (fun z' => by rw [z', hnone] at e; cases e)]
  exact this
 ·have hm := pq.mem_iff.mp hr
  rw [aE (am (inr r hm) fr)]
  exact s2 _ _ (inr r hm)
end
open PySem PySem.Spec PyProof.Rows
section
variable {X : Cx} {pins : List (Addr × Obj)} {σ : St} {H : Hp} {s : Shared}
end
section
variable {X : Cx}
end
section
variable {P : Program} {w : World} {K : PySem.W.Frag} {mg : Str -> Option Value} {base : Heap}
end
open PySem PySem.Spec PyProof.Rows PySem.W
section
variable {X : Cx} {e st : Expr} {te : TE} {ts : TO} {p2 pos : Pos}
end
section
variable {X : Cx}
end
theorem ls (t : SetTable) (n : Nat) : (t.orStandIn n).led = t.led /\ ((t.orStandIn n).plain = true -> t.plain = true) := by
 unfold SetTable.orStandIn
 split
 ·exact ⟨rfl, fun h => h⟩
 ·exact ⟨rfl, fun h => by cases h⟩
theorem uH (t : SetTable) (es : Array (Int × Value)) (h : Int) (x : Value) : (layNew t es h x).2.1.led = t.led /\ ((layNew t es h x).2.1.plain = true -> t.plain = true) := by
 unfold layNew
 split
 ·rename_i slot wd _
  obtain ⟨a, b⟩ := ls (t.put slot).1 (SetTable.insertAt es (t.put slot).2 (h, x)).size
  exact ⟨a, b⟩
 ·exact ⟨rfl, fun h => by cases h⟩
theorem ox {t t' : SetTable} {hs : Array Int} {n : Nat} {o : Array Nat} (h : t.relaid hs n = some (t', o)) : t'.led = t.led /\ t'.plain = t.plain := by
 unfold SetTable.relaid SetTable.laid at h
 cases e : SetTable.layClean (SetTable.sizeAbove n - 1) hs with
 | none => rw [e] at h; cases h
 | some ow =>
  rw [e] at h
  have h2 := Option.some.inj h
  injection h2 with h3 h4
  subst h3
  exact ⟨rfl, rfl⟩
theorem pV (t : SetTable) (es : Array (Int × Value)) (n : Nat) : (relayAll t es n).2.1.led = t.led /\ ((relayAll t es n).2.1.plain = true -> t.plain = true) := by
 unfold relayAll
 split
 ·rename_i t' o h
  obtain ⟨a, b⟩ := ox h
  dsimp only
  split
  ·exact ⟨a, fun z => by rw [<- b]; exact z⟩
  ·exact ⟨rfl, fun z => by cases z⟩
 ·exact ⟨rfl, fun z => by cases z⟩
def gC (e : Int × Value) : Str := match e.2 with | .str x _ => x | _ => default
def dI (P : Program) (w : World) (h : Heap) (a : Addr) (xs : List Str) : Prop :=
 ∃ o es ep t, h.get? a = some o /\ o.ExactSet /\ o.data = .set es ep t /\ ElemsOf (PySem.strKind P w) es.toList /\ es.size < scanBound /\ t.fits es.size = true /\ t.led = (!w.params.followText "set-order") /\ (t.plain = true -> es.size = 0) /\ (es.toList.map gC).Perm xs
section
variable {P : Program} {w : World} {A : Around} {E : Value -> Shared -> Prop} {s : Shared}
theorem jL {y : Str} {e : Int × Value} (h : (PySem.strKind P w).is y e.2 = true) : gC e = y := by
 obtain ⟨t, ht⟩ := Value.isStrOf_shape h
 unfold gC
 rw [ht]
theorem qQ {e : Int × Value} (h : ∃ k, (PySem.strKind P w).is k e.2 = true) : (PySem.strKind P w).is (gC e) e.2 = true := by
 obtain ⟨k, hk⟩ := h
 rw [jL hk]; exact hk
theorem dI.put {h : Heap} {a : Addr} {o : Obj} {es es' : Array (Int × Value)} {ep : Nat} {t t' : SetTable} {xs : List Str} (ho : h.get? a = some o) (hex : o.ExactSet) (hd : o.data = .set es ep t) (hel : ElemsOf (PySem.strKind P w) es'.toList)
  (hb : es'.size < scanBound) (hf : t'.fits es'.size = true) (hl : t'.led = (!w.params.followText "set-order")) (hp : t'.plain = true -> es'.size = 0) (hx : (es'.toList.map gC).Perm xs) :
  (h.update a (Obj.putSet es' t')).get? a = some { o with data := .set es' (ep + 1) t' } /\ dI P w (h.update a (Obj.putSet es' t')) a xs := by
 have hg : (h.update a (Obj.putSet es' t')).get? a = some { o with data := .set es' (ep + 1) t' } := by
  have := Heap.get?_update_self (Obj.putSet es' t') ho (by rw [putSet_of es' t' hd]; rfl)
  rw [putSet_of es' t' hd] at this; exact this
 exact ⟨hg, _, es', ep + 1, t', hg, hex, rfl, hel, hb, hf, hl, hp, hx⟩
theorem lP {g : Bool -> Sem Unit} (hg : ∀ (b : Bool) (s₁ : Shared) (Q' : Unit -> Shared -> Prop), Q' () s₁ -> wpAny (model P w) A (g b) Q' E s₁) {a : Addr} {o : Obj} {es es1 : Array (Int × Value)} {ep : Nat} {t t2 : SetTable} {xs : List Str} {wd : Bool} {R : Option Bool -> Shared -> Prop}
  (ho : s.heap.get? a = some o) (hex : o.ExactSet) (hd : o.data = .set es ep t) (hel : ElemsOf (PySem.strKind P w) es1.toList) (hb : es1.size < scanBound) (hf : t2.fits es1.size = true) (hl : t2.led = (!w.params.followText "set-order")) (hp : t2.plain = false) (hx : (es1.toList.map gC).Perm xs)
  (h : ∀ h', Heap.SameBut a s.heap h' -> dI P w h' a xs -> R (some true) { s with heap := h' }) :
  wpAny (model P w) A (do
    storeSet a es1 t2
    if (!wd && t2.tooFull) = true then do
        g (relayAll t2 es1 (SetTable.grown es1.size)).2.2
        storeSet a (relayAll t2 es1 (SetTable.grown es1.size)).1 (relayAll t2 es1 (SetTable.grown es1.size)).2.1
        pure (some true)
     else pure (some true)) R E s := by
 refine wpAny_bind (wpAny_storeSet_of ho hd ?_ (fits_of_scanBound hb))
 obtain ⟨ho1, hS1⟩ := dI.put (P := P) (w := w) ho hex hd hel hb hf hl (fun z => by rw [hp] at z; cases z) hx
 have sb1 := Heap.SameBut.update s.heap a (Obj.putSet es1 t2)
 split
 ·have pm := relayAll_perm t2 es1 (SetTable.grown es1.size)
  have ft := relayAll_fits t2 es1 (SetTable.grown es1.size)
  have ld := pV t2 es1 (SetTable.grown es1.size)
  generalize relayAll t2 es1 (SetTable.grown es1.size) = Rl at pm ft ld ⊢
  obtain ⟨es2, t3, gave⟩ := Rl
  dsimp only at pm ft ld ⊢
  have sz : es2.size = es1.size := by rw [<- Array.length_toList, pm.length_eq, Array.length_toList]
  refine wpAny_bind (hg _ _ _ (wpAny_bind (wpAny_storeSet_of ho1 rfl ?_ (fits_of_scanBound (by rw [sz]; exact hb)))))
  obtain ⟨_, hS2⟩ := dI.put (P := P) (w := w) (xs := xs) ho1 hex rfl (hel.perm pm) (by rw [sz]; exact hb) ft (by rw [ld.1]; exact hl) (fun z => by have := ld.2 z; rw [hp] at this; cases this) ((pm.map _).trans hx)
  exact wpAny_pure (h _ (sb1.trans (Heap.SameBut.update _ a _)) hS2)
 ·exact wpAny_pure (h _ sb1 hS1)
theorem me {a : Addr} {xs : List Str} {y : Str} {tk : Tok} {Q : Bool -> Shared -> Prop} (hS : dI P w s.heap a xs) (hlen : xs.length + 1 < scanBound)
  (h : ∀ h' b, Heap.SameBut a s.heap h' -> dI P w h' a (if y ∈ xs then xs else xs ++ [y]) -> Q b { s with heap := h' }) : wpAny (model P w) A (setAddHashed a (.str y tk) ((PySem.strKind P w).hash y)) Q E s := by
 obtain ⟨o, es, ep, t, ho, hex, hd, hel, hb, hf, hl, hpl, hx⟩ := hS
 have hkey : (PySem.strKind P w).is y (.str y tk) = true := strKind_is _ _ _ _
 have hsc : (Value.str y tk).scannable = true := rfl
 have sz : es.size = xs.length := by rw [<- hx.length_eq, List.length_map, Array.length_toList]
 unfold setAddHashed setAddHashedIn
 refine wpAny_holding (wpAny_bind (wpAny_setState_of ho hd hf ?_))
 dsimp only
 rw [byScan_of hsc hb hel]
 simp only [↓reduceIte]
 unfold setAddByScan
 refine wpAny_bind (wpAny_bind (wpAny_rule (wpAny_bind (wpAny_setScan_of hkey ho hd hf hel ?_))))
 cases hr : List.findIdx? (fun e => (PySem.strKind P w).is y e.2) es.toList with
 | some j =>
  dsimp only
  obtain ⟨hj, hpj, _⟩ := List.findIdx?_eq_some_iff_getElem.mp hr
  have hy : y ∈ xs := hx.mem_iff.mp (List.mem_map.mpr ⟨es.toList[j], List.getElem_mem hj, jL hpj⟩)
  have e : s = { s with heap := s.heap } := by cases s; rfl
  have q := h s.heap false (Heap.SameBut.refl a s.heap) (by rw [if_pos hy]; exact ⟨o, es, ep, t, ho, hex, hd, hel, hb, hf, hl, hpl, hx⟩)
  rw [<- e] at q
  exact wpAny_pure (wpAny_pure q)
 | none =>
  dsimp only
  have hy : y ∉ xs := fun z => by
   obtain ⟨e, he, e1⟩ := List.mem_map.mp (hx.mem_iff.mpr z)
   have := List.findIdx?_eq_none_iff.mp hr e he
   rw [<- e1, qQ (hel.keys e he)] at this
   cases this
  rw [if_neg hy] at h
  have hgw : ∀ (b : Bool) {s₁ : Shared} {Q' : Unit -> Shared -> Prop}, Q' () s₁ -> wpAny (model P w) A (match b with | true => rule "set.scan.the-table-gave-way" | false => pure ()) Q' E s₁ :=
   fun b s₁ Q' hq => by cases b <;> first | exact wpAny_pure hq | exact wpAny_rule hq
  have pm := layNew_perm t es ((PySem.strKind P w).hash y) (.str y tk)
  have ft := layNew_fits t es ((PySem.strKind P w).hash y) (.str y tk)
  have ld := uH t es ((PySem.strKind P w).hash y) (.str y tk)
  generalize layNew t es ((PySem.strKind P w).hash y) (.str y tk) = L at pm ft ld ⊢
  obtain ⟨es1, t1, wd, gave⟩ := L
  dsimp only at pm ft ld ⊢
  rw [Array.toList_push] at pm
  have hel1 : ElemsOf (PySem.strKind P w) es1.toList := (hel.push hkey hsc).perm pm
  have sz1 : es1.size = es.size + 1 := by rw [<- Array.length_toList, pm.length_eq, List.length_append, Array.length_toList]; rfl
  have hb1 : es1.size < scanBound := by rw [sz1, sz]; exact hlen
  have hx1 : (es1.toList.map gC).Perm (xs ++ [y]) := by
   refine (pm.map gC).trans ?_
   rw [List.map_append]
   exact hx.append (List.Perm.refl _)
  refine wpAny_bind (hgw _ ?_)
  split
  ·refine wpAny_bind ?_
   rw [hashByValue_scannable 8 hsc]
   refine wpAny_pure ?_
   refine lP ?_ ho hex hd hel1 hb1 (t2 := { t1 with plain := false }) (SetTable.fits_plain_off ft) (by rw [<- hl]; exact ld.1) rfl hx1 ?_
   ·intro b s₁ Q' hq; cases b <;> first | exact wpAny_pure hq | exact wpAny_rule hq
   ·intro h' sb hS'; dsimp only; exact wpAny_pure (h h' true sb hS')
  ·rename_i hnp
   refine wpAny_bind (wpAny_pure ?_)
   simp only [↓reduceIte]
   refine lP ?_ ho hex hd hel1 hb1 ft (by rw [<- hl]; exact ld.1) (by cases z : t1.plain with | false => rfl | true => exact absurd z hnp) hx1 ?_
   ·intro b s₁ Q' hq; cases b <;> first | exact wpAny_pure hq | exact wpAny_rule hq
   ·intro h' sb hS'; dsimp only; exact wpAny_pure (h h' true sb hS')
end
def mi (acc : List Str) (y : Str) : List Str := if y ∈ acc then acc else acc ++ [y]
def uq (val : Nat -> Str) (i : Nat) : List Str := ((List.range i).map val).foldl mi []
theorem ie (val : Nat -> Str) (i : Nat) : uq val (i + 1) = mi (uq val i) (val i) := by
 unfold uq
 rw [List.range_succ, List.map_append, List.foldl_append]
 rfl
theorem kT (val : Nat -> Str) : ∀ i, (uq val i).length <= i
 | 0 => Nat.le_refl _
 | i + 1 => by
  have ih := kT val i
  rw [ie]
  unfold mi
  split
  ·omega
  ·rw [List.length_append, List.length_singleton]; omega
theorem fL (val : Nat -> Str) : ∀ i, (uq val i).Nodup
 | 0 => List.nodup_nil
 | i + 1 => by
  rw [ie]
  unfold mi
  split
  ·exact fL val i
  ·rename_i h
   exact List.nodup_append.mpr ⟨fL val i, by simp, fun a ha b hb e => h (by rw [List.mem_singleton.mp hb] at e; rw [<- e]; exact ha)⟩
theorem nO (val : Nat -> Str) (x : Str) : ∀ i, x ∈ uq val i ↔ ∃ j, j < i /\ val j = x
 | 0 => ⟨(fun h => nomatch h), (fun ⟨j, h, _⟩ => absurd h (Nat.not_lt_zero _))⟩
 | i + 1 => by
  rw [ie]
  unfold mi
  have ih := nO val x i
  constructor
  ·intro h
   split at h
   ·obtain ⟨j, hj, e⟩ := ih.mp h
    exact ⟨j, by omega, e⟩
   ·rcases List.mem_append.mp h with h | h
    ·obtain ⟨j, hj, e⟩ := ih.mp h
     exact ⟨j, by omega, e⟩
    ·exact ⟨i, by omega, (List.mem_singleton.mp h).symm⟩
  ·rintro ⟨j, hj, e⟩
   split
   ·rename_i h
    by_cases hji : j = i
    ·rw [<- e, hji]; exact h
    ·exact ih.mpr ⟨j, by omega, e⟩
   ·by_cases hji : j = i
    ·rw [<- e, hji]; exact List.mem_append_right _ (List.mem_singleton.mpr rfl)
    ·exact List.mem_append_left _ (ih.mpr ⟨j, by omega, e⟩)
section
variable {P : Program} {w : World} {A : Around} {R : Result -> Shared -> Prop} {I : Addr} {fp wr : List Addr} {G : Array GenState -> Array GenState -> Prop} {n : Nat} {Pv : Nat -> Value -> Prop} {St : Nat -> Shared -> Prop}
theorem dI.at' {h h' : Heap} {a : Addr} {xs : List Str} (x : dI P w h a xs) (k : ∀ o, h.get? a = some o -> h'.get? a = some o) : dI P w h' a xs := let ⟨o, es, ep, t, ho, r⟩ := x; ⟨o, es, ep, t, k o ho, r⟩
theorem mS (W : WalksS P w A.in1 I fp wr G n Pv St) (S : Addr) (hSf : S ∉ fp) (val : Nat -> Str) (hval : ∀ i v, Pv i v -> ∃ t, v = .str (val i) t) (hb : n + 1 < scanBound) :
  ∀ (k i : Nat) (s : Shared), n - i = k -> i <= n -> St i s -> dI P w s.heap S (uq val i) -> (∀ s', Moved (S :: wr) G s s' -> dI P w s'.heap S (uq val n) -> R (.ok (.ret .none)) s') ->
   codeAny (model P w) A (.builtin "set.update.loop" ⟨[.ref S, .ref I], []⟩) R s := by
 have hSw : S ∉ wr := fun h => hSf (W.sub _ h)
 have more : ∀ b ∈ wr, b ∈ S :: wr := fun b hb => List.mem_cons_of_mem _ hb
 intro k
 induction k with
 | zero =>
  intro i s hk hi st hS fin
  obtain rfl : i = n := by omega
  refine codeAny_builtin F.entry_set_update_loop ?_
  rw [Around.under_plainId F.plain_set_update_loop _]
  show wpAny _ A.in1 (pyNext (.ref I) >>= _) _ _ s
  refine wpAny_bind (W.done s _ _ st fun s' hm => ?_)
  show wpAny _ A.in1 (ret Value.none) _ _ s'
  exact wpAny_pure (fin s' (hm.mono more) (hS.at' fun o e => hm.heap S _ hSw e))
 | succ k ih =>
  intro i s hk hi st hS fin
  have hlt : i < n := by omega
  refine codeAny_builtin F.entry_set_update_loop ?_
  rw [Around.under_plainId F.plain_set_update_loop _]
  show wpAny _ A.in1 (pyNext (.ref I) >>= _) _ _ s
  refine wpAny_bind (W.item i s _ _ hlt st fun v s' hP st' hm => ?_)
  obtain ⟨t, rfl⟩ := hval i v hP
  have hS' : dI P w s'.heap S (uq val i) := hS.at' fun o e => hm.heap S _ hSw e
  show wpAny _ A.in1 (holding [Value.str (val i) t] (setAdd S (.str (val i) t)) >>= _) _ _ s'
  refine wpAny_bind (wpAny_holding ?_)
  unfold setAdd
  refine wpAny_holding (wpAny_bind ((PySem.strKind P w).pyHash (k := val i) (strKind_is _ _ _ _) ?_))
  have room : (uq val i).length + 1 < scanBound := by have := kT val i; omega
  refine me (s := { s' with toks := s'.toks + 1 }) hS' room fun h' b sb hS2 => ?_
  have hSi : dI P w h' S (uq val (i + 1)) := by rw [ie]; exact hS2
  refine wpAny_pure ⟨plainId_quiet F.plain_set_update_loop _, ih (i + 1) _ (by omega) hlt (W.frame _ s' _ _ st' (Nat.le_succ _) fun b hb o e => ?_) hSi fun s'' hm'' hS'' => ?_⟩
  ·rw [sb.2 b (fun h : b = S => hSf (by rw [<- h]; exact hb))]; exact e
  ·refine fin s'' (Moved.trans W.gtrans ((hm.mono more).then_heap (Nat.le_succ _) fun b o hb e => ?_) hm'') hS''
   rw [sb.2 b (fun h : b = S => hb (by rw [h]; exact List.mem_cons_self))]; exact e
end
def bz (w : World) : Obj := { cls := .type "set", dict := none, data := .set #[] 0 (.fresh 0 0 (!w.params.followText "set-order")) }
section
variable {P : Program} {w : World} {A : Around} {E : Value -> Shared -> Prop} {s : Shared}
theorem fj (a : Value) {Q₁ : Value -> Shared -> Prop} (h : Q₁ (.ref s.heap.objs.size) { s with heap := s.heap.push (bz w) }) :
  codeAny (model P w) A (.call (.builtin "set.__new__") ⟨[.type "set", a], []⟩) (wants Q₁ E) s := by
 refine codeAny_of_tree ?_
 show wpAny _ A.in1 (do checkBuiltinCall "set.__new__" ⟨[.type "set", a], []⟩; again (.builtin "set.__new__" ⟨[.type "set", a], []⟩)) _ _ s
 refine wpAny_bind (wpAny_of_eq (PySem.F.newCall_set_1 a) (wpAny_pure ⟨plainId_quiet PySem.F.plain_set_new _, codeAny_builtin PySem.F.entry_set_new ?_⟩))
 rw [Around.under_plainId PySem.F.plain_set_new _]
 unfold Builtin.«set.__new__» Builtin.Frozenset.newClass
 have hsub := sub_set_self
 obtain ⟨hp, g, d, tk, os⟩ := s
 dsimp only
 wp_walk
 refine wpAny_askSetting (wpAny_pure ?_)
 dsimp only
 simp only [newObj]
 refine wpAny_bind (wpAny_alloc (wpAny_pure ?_))
 exact wpAny_pure h
theorem im (h : Heap) : dI P w (h.push (bz w)) h.objs.size [] :=
 ⟨_, #[], 0, _, Heap.get?_push_size _ rfl, ⟨rfl, rfl, rfl⟩, rfl, fun e he => by simp at he, by decide, rfl, rfl, fun _ => rfl, List.Perm.refl _⟩
theorem jf {l : Addr} {items : Array Value} {ys : List Str} {Q : Value -> Shared -> Prop} (hh : A.handled = none) (hl : s.heap.IsList l items) (hi : ∀ (i : Nat) (v : Value), items[i]? = some v -> ∃ t, v = .str (ys.getD i default) t) (hb : items.size + 1 < scanBound)
  (h : ∀ (h' : Heap) (tk : Nat), dI P w h' s.heap.objs.size (uq (fun i => ys.getD i default) items.size) -> (∀ b o, b < s.heap.objs.size -> s.heap.get? b = some o -> h'.get? b = some o) -> Q (.ref s.heap.objs.size) { s with heap := h', toks := tk }) :
  wpAny (model P w) A (call (.type "set") [.ref l]) Q E s := by
 obtain ⟨c, tl, hmro⟩ := PySem.F.called_set.mro
 have hmade := PySem.F.called_set.made
 have hsub := PySem.F.called_set.sub
 refine wpAny_call (codeAny_of_tree ?_)
 show wpAny _ _ (callAny (.type "set") _) _ _ _
 refine wpAny_pure ⟨Code.quiet_builtin _ (by decide +kernel), codeAny_builtin PySem.F.entry_type_call ?_⟩
 rw [Around.under_plain (weight_type_call_type "set" [.ref l] []) rfl]
 have h1 := PySem.F.called_set.notType
 have h2 := PySem.F.called_set.canCreate
 have hct := PySem.F.typeCall_set_1 (.ref l)
 repeat (any_goals (first | assumption | wp_step))
 refine codeAny_mono (fj (.ref l) (E := E) (Q₁ := fun obj s₁ => obj = .ref s.heap.objs.size /\ s₁ = { s with heap := s.heap.push (bz w) }) ⟨rfl, rfl⟩) fun r s₁ hr => ?_
 cases r with
 | error e => exact hr
 | ok fl =>
  cases fl with
  | ret obj =>
   obtain ⟨rfl, rfl⟩ := hr
   have hS : (s.heap.push (bz w)).get? s.heap.objs.size = some (bz w) := Heap.get?_push_size _ rfl
   have hT : Shared.TypeIs { s with heap := s.heap.push (bz w) } (.ref s.heap.objs.size) "set" := ⟨_, hS, rfl⟩
   have hli := PySem.F.called_set.init.lookup
   have hbi := PySem.F.called_set.init.bind (.ref s.heap.objs.size)
   repeat (any_goals (first | assumption | wp_step))
   refine codeAny_mono (codeAny_call_builtin (R := wants (fun r s₂ => r = .none /\ ∃ h' tk, s₂ = { s with heap := h', toks := tk } /\ dI P w h' s.heap.objs.size (uq (fun i => ys.getD i default) items.size) /\ (∀ b o, b < s.heap.objs.size -> s.heap.get? b = some o -> h'.get? b = some o)) E)
    PySem.F.called_set.init.plain PySem.F.entry_set_init (check_set_init_1 hT ?_)) fun r₂ s₂ hr₂ => ?_
   ·obtain ⟨ol, hol, hcl, nl, hdl⟩ := hl
    obtain ⟨ocls, odict, odata, oslots⟩ := ol
    simp only at hcl hdl
    subst hcl; subst hdl
    have hol' : (s.heap.push (bz w)).get? l = some { cls := .type "list", dict := odict, data := .seq items nl, slots := oslots } := Heap.get?_push_of_some _ hol
    have hsls := PySem.F.sub_list_set
    have hslf := PySem.F.sub_list_frozenset
    have hne : (Value.type "list" == Value.type "dict") = false := by decide
    have hl1 : (s.heap.push (bz w)).IsList l items := ⟨_, hol', rfl, nl, rfl⟩
    unfold bz at hS hT hol' hl1 ⊢
    unfold Builtin.«set.__init__» noKeywords Builtin.Frozenset.updateFrom
    generalize hPI : pyIter = PI
    wp_walk
    subst hPI
    refine wpAny_pyIter_list hl1 ?_
    refine wpAny_bind (wpAny_runValue ?_)
    have hlS : l < s.heap.objs.size := Heap.lt_size hol
    have hh3 : A.in1.in1.in1.handled = none := by simp [hh]
    have hneI : l ≠ (s.heap.push (bz w)).objs.size := by
     rw [Heap.size_push]; exact Nat.ne_of_lt (Nat.lt_succ_of_lt hlS)
    have hSf : s.heap.objs.size ∉ [(s.heap.push (bz w)).objs.size, l] := by
     rw [Heap.size_push]; simp only [List.mem_cons, List.mem_singleton, List.not_mem_nil, or_false, not_or]
     exact ⟨Nat.ne_of_lt (Nat.lt_succ_self _), Nat.ne_of_gt hlS⟩
    refine mS ((Walks.list hh3 _ l hneI items).toS) s.heap.objs.size hSf (fun i => ys.getD i default) hi hb (items.size - 0) 0 _ (by omega) (Nat.zero_le _)
     ⟨⟨_, Heap.get?_push_size _ rfl, rfl, rfl⟩, (hl1.push _)⟩ ?hS0 ?hR
    case hS0 => exact (im s.heap).at' fun o e => Heap.get?_push_of_some _ e
    case hR =>
     intro s' hm hS'
     obtain ⟨h', g', d', tk', os'⟩ := s'
     have eg : g' = s.gens := hm.gens
     have ed : d' = s.drawn := hm.drawn
     have eo : os' = s.os := hm.os
     subst eg; subst ed; subst eo
     show wpAny _ _ _ _ _ _
     refine wpAny_pure ?_
     show wpAny _ _ (ret Value.none) _ _ _
     refine wpAny_pure ⟨rfl, h', tk', rfl, hS', fun b o hb e => ?_⟩
     have hb1 : b ≠ s.heap.objs.size := Nat.ne_of_lt hb
     have hb2 : b ≠ (s.heap.push (bz w)).objs.size := by
      rw [Heap.size_push]; exact Nat.ne_of_lt (Nat.lt_succ_of_lt hb)
     exact hm.heap b o (by simp only [List.mem_cons, List.mem_singleton, List.not_mem_nil, or_false, not_or]; exact ⟨hb1, hb2⟩) (Heap.get?_push_of_some _ (Heap.get?_push_of_some _ e))
   ·cases r₂ with
    | error e => exact hr₂
    | ok fl₂ =>
     cases fl₂ with
     | ret r =>
      obtain ⟨rfl, h', tk, rfl, hS', hk'⟩ := hr₂
      repeat (any_goals (first | assumption | wp_step))
      exact h _ _ hS' hk'
     | _ => exact hr₂.elim
  | _ => exact hr.elim
end
section
variable {P : Program} {w : World} {A : Around} {E : Value -> Shared -> Prop}
variable {s : Shared} {it S : Addr} {o : Obj} {es : Array (Int × Value)} {ep n i : Nat} {t : SetTable}
end
section
variable {P : Program} {w : World} {A : Around} {E : Value -> Shared -> Prop} {s : Shared} {it S : Addr} {o : Obj} {es : Array (Int × Value)} {ep n i : Nat} {t : SetTable}
end
section
variable {P : Program} {w : World} {A : Around} {E : Value -> Shared -> Prop} {s : Shared} {it S tp : Addr} {o ot : Obj} {es : Array (Int × Value)} {ep n i m : Nat} {t : SetTable} {pl : Array Value}
end
section
variable {P : Program} {w : World} {A : Around} {E : Value -> Shared -> Prop} {s : Shared} {S : Addr} {o : Obj} {es : Array (Int × Value)} {ep : Nat} {t : SetTable}
end
section
variable {P : Program} {w : World} {it S tp : Addr} {o ot : Obj} {es : Array (Int × Value)} {ep m : Nat} {t : SetTable}
end
section
variable {P : Program} {w : World} {A : Around} {E : Value -> Shared -> Prop} {s : Shared} {S : Addr} {xs : List Str}
variable {R : Result -> Shared -> Prop} {it L : Addr} {fp : List Addr} {vs : List Value} {St : Nat -> Heap -> Prop}
end
section
variable {P : Program} {w : World} {A : Around} {E : Value -> Shared -> Prop} {s : Shared} {S : Addr} {xs : List Str}
end
section
variable {X : Cx} {pins : List (Addr × Obj)} {σ : St} {H : Hp} {s : Shared}
theorem oS {ps : List Str} {its : List Value} (rv : aL (ps.map V.str) its) (i : Nat) (hi : i < ps.length) : ∃ t, its.getD i .none = Value.str (ps.getD i default) t := by
 obtain ⟨u, hu, ru⟩ := aL.get (i := i) (x := V.str ps[i]) rv (by rw [List.getElem?_map, List.getElem?_eq_getElem hi]; rfl)
 obtain ⟨t, rfl⟩ := (show ∃ t, u = Value.str ps[i] t from ru)
 exact ⟨t, by simp [List.getD, hu, hi]⟩
end
section
variable {X : Cx}
def jg (P : Program) (w : World) (a : Addr) (xs : List Str) : HO := .ext fun h => dI P w h a xs
theorem ql (hc : X.calm = true) : dP X (.type "set") (fun xs H Q => ∃ (l : Addr) (ys : List Str), xs = [.ref l] /\ SqL X.K H l (ys.map V.str) /\ ys.length <= 1000 /\
  ∀ (a : Addr) (zs : List Str), H a = none -> zs.Nodup -> (∀ x, x ∈ zs ↔ x ∈ ys) -> zs.length <= ys.length -> Q (.ref a) (upd H a (jg X.prog X.w a zs))) := by
 intro pins s σ H xs us Q I r h
 obtain ⟨l, ys, rfl, hq, hy, q⟩ := h
 obtain ⟨u, rfl, ru⟩ := fm r
 cases ru
 obtain ⟨its, rv, p, hz⟩ := I.list hq
 have li : its.length = ys.length := by have := rv.length; rw [List.length_map] at this; exact this.symm
 have hb : its.toArray.size + 1 < scanBound := by rw [List.size_toArray, li]; unfold scanBound; omega
 refine jf (ys := ys) (I.ok.hd hc) p.isList (fun i v hv => ?_) hb fun h' tk hS k => ?_
 ·have hv' : its[i]? = some v := by simpa using hv
  have hi : i < ys.length := by rw [<- li]; exact (List.getElem?_eq_some_iff.mp hv').1
  obtain ⟨t, e⟩ := oS rv i hi
  refine ⟨t, ?_⟩
  rw [<- e]
  simp [List.getD, hv']
 ·have sz : its.toArray.size = ys.length := by rw [List.size_toArray, li]
  rw [sz] at hS
  refine ⟨.ref s.heap.objs.size, _, I.laid (a := s.heap.objs.size) (o := jg X.prog X.w s.heap.objs.size (uq (fun i => ys.getD i default) ys.length)) (t' := tk) (fun b u e => k b u (Heap.lt_size e) e) (Nat.le_refl _) ?_, rfl, q _ _ I.fresh (fL _ _) (fun x => ?_) (kT _ _)⟩
  ·refine ⟨hS, ?_, fun h1 h2 x kk => dI.at' x kk⟩
   obtain ⟨o, _, _, _, ho, _⟩ := hS
   exact ⟨o, ho⟩
  ·rw [nO]
   constructor
   ·rintro ⟨j, hj, rfl⟩
    have e : ys.getD j default = ys[j] := by simp [List.getD, hj]
    rw [e]; exact List.getElem_mem hj
   ·intro hx
    obtain ⟨j, hj, rfl⟩ := List.getElem_of_mem hx
    exact ⟨j, hj, by simp [List.getD, hj]⟩
end
section
variable {X : Cx}
theorem uu {j : Int} (h0 : 0 < j) (h1 : j < 10 ^ 60) : j.natAbs.log2 < 9000 := by
 have hn : j.natAbs < 2 ^ 200 := by omega
 have := (Nat.log2_lt (n := j.natAbs) (k := 200) (by omega)).mpr hn
 omega
def xI (i j : Int) : Prop := 0 < j /\ j < 10 ^ 60
theorem dC : OpR X (binaryOp .FloorDiv) (rI xI fun i j => .int (i / j)) := opI fun i j _ _ _ _ _ hc q => by
 have h1 : (0 : Int) < j := hc.1
 exact floordiv_int (by omega) (by rw [Int.fdiv_eq_ediv_of_nonneg i (by omega)]; exact q) (.inl (PyProof.noPylong_of_log2 (uu hc.1 hc.2)))
end
theorem kO : ∀ {xs : List V} {us : List Value}, xs.length = us.length -> (∀ (i : Nat) (x : V) (u : Value), xs[i]? = some x -> us[i]? = some u -> aQ x u) -> aL xs us
 | [], [], _, _ => .nil
 | [], _ :: _, h, _ => by cases h
 | _ :: _, [], h, _ => by cases h
 | x :: xs, u :: us, h, g => .cons (g 0 x u rfl rfl) (kO (by simpa using h) fun i y v h1 h2 => g (i + 1) y v h1 h2)
section
variable {X : Cx}
end
open PySem PySem.Spec PyProof.Rows
section
variable {prog : Program} {w : World} {A : Around} {E : Value -> Shared -> Prop} {s : Shared}
theorem cS {it t : Addr} {i : Nat} {its : Array Value} {x : Value} {Q : Value -> Shared -> Prop} (hit : s.heap.IsTupleIter it t i) (ht : s.heap.IsTuple t its) (hx : its[i]? = some x)
  (hQ : ∀ h', h'.IsTupleIter it t (i + 1) -> Heap.SameBut it s.heap h' -> Q x { s with heap := h' }) : wpAny (model prog w) A (Builtin.SmallTypes.nextOf (.ref it)) Q E s := by
 obtain ⟨o, ho, hc, hd⟩ := id hit
 obtain ⟨ol, hol, _, nl, hdl⟩ := ht
 unfold Builtin.SmallTypes.nextOf
 refine wpAny_bind (wpAny_callSpecial?_slot (name := Str.ofString "__next__") hit.typeIs F.slot_tuple_iterator_next (wpAny_call_entry F.slot_tuple_iterator_next hit.typeIs F.entry_tuple_iterator_next ?_ (F.args_tuple_iterator_next_1 _)))
 show wpAny _ _ (field (.ref it) 0 >>= _) _ _ s; refine wpAny_bind (wpAny_field ho hd (x := .ref t) rfl ?_)
 show wpAny _ _ (if (Value.ref t == Value.none) = true then _ else _) _ _ s; rw [if_neg (show ¬ ((Value.ref t == Value.none) = true) from Bool.false_ne_true)]
 show wpAny _ _ (field (.ref it) 1 >>= _) _ _ s; refine wpAny_bind (wpAny_field ho hd (x := .int i 0) rfl ?_)
 show wpAny _ _ (seqItems? (.ref t) >>= _) _ _ s; refine wpAny_bind (wpAny_seqItems hol hdl ?_); simp only [Int.toNat_natCast, hx]
 refine wpAny_bind (wpAny_setField ho hd (by simp) (wpAny_pure ⟨x, rfl, wpAny_pure (hQ _ ⟨_, Heap.get?_update_self _ ho (Obj.isFreed_of_fields (Obj.data_mapFields hd _)), (Obj.cls_mapFields ..).trans hc, by rw [Obj.data_mapFields hd]; simp [rawInt]⟩ (Heap.SameBut.update ..))⟩))
theorem eQ {it t : Addr} {i : Nat} {its : Array Value} {Q : Value -> Shared -> Prop} (hh : A.handled = none) (hit : s.heap.IsTupleIter it t i) (ht : s.heap.IsTuple t its) (hx : its[i]? = none)
  (hE : ∀ h' e, Heap.ExtBut it s.heap h' -> (∃ o, h'.get? e = some o /\ o.cls = .type "StopIteration") -> E (.ref e) { s with heap := h' }) : wpAny (model prog w) A (Builtin.SmallTypes.nextOf (.ref it)) Q E s := by
 obtain ⟨o, ho, hc, hd⟩ := id hit
 obtain ⟨ol, hol, _, nl, hdl⟩ := ht
 unfold Builtin.SmallTypes.nextOf
 refine wpAny_bind (wpAny_callSpecial?_slot (name := Str.ofString "__next__") hit.typeIs F.slot_tuple_iterator_next (wpAny_call_entry F.slot_tuple_iterator_next hit.typeIs F.entry_tuple_iterator_next ?_ (F.args_tuple_iterator_next_1 _)))
 show wpAny _ _ (field (.ref it) 0 >>= _) _ _ s; refine wpAny_bind (wpAny_field ho hd (x := .ref t) rfl ?_)
 show wpAny _ _ (if (Value.ref t == Value.none) = true then _ else _) _ _ s; rw [if_neg (show ¬ ((Value.ref t == Value.none) = true) from Bool.false_ne_true)]
 show wpAny _ _ (field (.ref it) 1 >>= _) _ _ s; refine wpAny_bind (wpAny_field ho hd (x := .int i 0) rfl ?_)
 show wpAny _ _ (seqItems? (.ref t) >>= _) _ _ s; refine wpAny_bind (wpAny_seqItems hol hdl ?_); simp only [Int.toNat_natCast, hx]
 refine wpAny_bind (wpAny_rule (wpAny_bind (wpAny_setField ho hd (by simp) ?_))); show wpAny _ _ (newExc (.type "StopIteration") [] >>= _) _ _ _
 refine wpAny_bind ?_; simp only [newExc, newTuple]; refine wpAny_bind (wpAny_newObj_type ?_ (by size_fits))
 refine wpAny_bind (m := firstArgMember _ _) (wpAny_of_eq (a := Value.none) (by first | rfl | (simp only [firstArgMember]; rfl)) (wpAny_newObj_type ?_ (by size_fits)))
 simp only [raiseNew]; refine wpAny_bind (wpAny_handled ?_); first | rw [show A.in1.handled = none from hh] | rw [hh]
 refine wpAny_bind (wpAny_pure (wpAny_throw (hE _ _ (((Heap.SameBut.update ..).extBut.push _).push _) ⟨_, Heap.get?_push_size _ rfl, rfl⟩)))
end
section
variable {X : Cx}
end
open PySem PySem.Spec PyProof.Rows PySem.W
section
variable {X : Cx}
variable {tg : Expr}
end
noncomputable def dy (p : Prop) : Bool := @decide p (Classical.propDecidable p)
theorem cA {p : Prop} : dy p = true ↔ p := by unfold dy; exact @decide_eq_true_iff p (Classical.propDecidable p)
theorem dM {p : Prop} {b : Bool} (h : b = true ↔ p) : b = dy p := by rw [Bool.eq_iff_iff, cA]; exact h
theorem cX {p : Prop} (h : ¬ p) : false = dy p := dM ⟨fun z => (nomatch z), fun z => absurd z h⟩
mutual
theorem Rep.inj {H : Hp} : ∀ (d e : Dv) (v : V), Rep H d v -> Rep H e v -> d = e
 | .tup ds, e, v, h1, h2 => by
  simp only [Rep] at h1
  obtain ⟨a, vs, rfl, ha, rs⟩ := h1
  cases e with
  | tup es => simp only [Rep] at h2; obtain ⟨b, ws, eb, hb, rs2⟩ := h2; cases eb; rw [ha] at hb; cases hb; rw [aj.inj ds es vs rs rs2]
  | lst es => simp only [Rep] at h2; obtain ⟨b, ws, eb, hb, rs2⟩ := h2; cases eb; rw [ha] at hb; cases hb
  | dct => simp only [Rep] at h2; obtain ⟨b, eb, hb⟩ := h2; cases eb; rw [ha] at hb; cases hb
  | _ => simp only [Rep] at h2; cases h2
 | .lst ds, e, v, h1, h2 => by
  simp only [Rep] at h1
  obtain ⟨a, vs, rfl, ha, rs⟩ := h1
  cases e with
  | lst es => simp only [Rep] at h2; obtain ⟨b, ws, eb, hb, rs2⟩ := h2; cases eb; rw [ha] at hb; cases hb; rw [aj.inj ds es vs rs rs2]
  | tup es => simp only [Rep] at h2; obtain ⟨b, ws, eb, hb, rs2⟩ := h2; cases eb; rw [ha] at hb; cases hb
  | dct => simp only [Rep] at h2; obtain ⟨b, eb, hb⟩ := h2; cases eb; rw [ha] at hb; cases hb
  | _ => simp only [Rep] at h2; cases h2
 | .dct, e, v, h1, h2 => by
  simp only [Rep] at h1
  obtain ⟨a, rfl, ha⟩ := h1
  cases e with
  | dct => rfl
  | tup es => simp only [Rep] at h2; obtain ⟨b, ws, eb, hb, rs2⟩ := h2; cases eb; rw [ha] at hb; cases hb
  | lst es => simp only [Rep] at h2; obtain ⟨b, ws, eb, hb, rs2⟩ := h2; cases eb; rw [ha] at hb; cases hb
  | _ => simp only [Rep] at h2; cases h2
 | .non, e, v, h1, h2 => by
  simp only [Rep] at h1; subst h1
  cases e with
  | non => rfl
  | tup es => simp only [Rep] at h2; obtain ⟨b, ws, eb, _⟩ := h2; cases eb
  | lst es => simp only [Rep] at h2; obtain ⟨b, ws, eb, _⟩ := h2; cases eb
  | dct => simp only [Rep] at h2; obtain ⟨b, eb, _⟩ := h2; cases eb
  | _ => simp only [Rep] at h2; cases h2
 | .bl _, e, v, h1, h2 => by
  simp only [Rep] at h1; subst h1
  cases e with
  | bl b => simp only [Rep] at h2; cases h2; rfl
  | tup es => simp only [Rep] at h2; obtain ⟨b, ws, eb, _⟩ := h2; cases eb
  | lst es => simp only [Rep] at h2; obtain ⟨b, ws, eb, _⟩ := h2; cases eb
  | dct => simp only [Rep] at h2; obtain ⟨b, eb, _⟩ := h2; cases eb
  | _ => simp only [Rep] at h2; cases h2
 | .int _, e, v, h1, h2 => by
  simp only [Rep] at h1; subst h1
  cases e with
  | int b => simp only [Rep] at h2; cases h2; rfl
  | tup es => simp only [Rep] at h2; obtain ⟨b, ws, eb, _⟩ := h2; cases eb
  | lst es => simp only [Rep] at h2; obtain ⟨b, ws, eb, _⟩ := h2; cases eb
  | dct => simp only [Rep] at h2; obtain ⟨b, eb, _⟩ := h2; cases eb
  | _ => simp only [Rep] at h2; cases h2
 | .str _, e, v, h1, h2 => by
  simp only [Rep] at h1; subst h1
  cases e with
  | str b => simp only [Rep] at h2; cases h2; rfl
  | tup es => simp only [Rep] at h2; obtain ⟨b, ws, eb, _⟩ := h2; cases eb
  | lst es => simp only [Rep] at h2; obtain ⟨b, ws, eb, _⟩ := h2; cases eb
  | dct => simp only [Rep] at h2; obtain ⟨b, eb, _⟩ := h2; cases eb
  | _ => simp only [Rep] at h2; cases h2
theorem aj.inj {H : Hp} : ∀ (ds es : List Dv) (vs : List V), aj H ds vs -> aj H es vs -> ds = es
 | [], es, vs, h1, h2 => by
  simp only [aj] at h1; subst h1
  cases es with
  | nil => rfl
  | cons e es => simp only [aj] at h2; obtain ⟨v, r, e2, _⟩ := h2; cases e2
 | d :: ds, es, vs, h1, h2 => by
  simp only [aj] at h1
  obtain ⟨v, r, rfl, r1, rs1⟩ := h1
  cases es with
  | nil => simp only [aj] at h2; cases h2
  | cons e es =>
   simp only [aj] at h2
   obtain ⟨v2, r2, e2, r3, rs3⟩ := h2
   cases e2
   rw [Rep.inj d e v r1 r3, aj.inj ds es r rs1 rs3]
end
inductive Pl : Nat -> Dv -> Prop
 | int {n : Nat} {i : Int} : Pl n (.int i)
 | str {n : Nat} {x : Str} : Pl n (.str x)
 | non {n : Nat} : Pl n .non
 | tup {n : Nat} {ds : List Dv} : (∀ d ∈ ds, Pl n d) -> Pl (n + 1) (.tup ds)
theorem Pl.up {m n : Nat} {d : Dv} (h : Pl m d) : m <= n -> Pl n d := by
 induction h generalizing n with
 | int => intro _; exact .int
 | str => intro _; exact .str
 | non => intro _; exact .non
 | tup _ ih =>
  intro l
  obtain ⟨k, rfl⟩ : ∃ k, n = k + 1 := ⟨n - 1, by omega⟩
  exact .tup fun d hd => ih d hd (by omega)
theorem nt {ds es : List Dv} : ((List.range (min ds.length es.length)).all (fun j => dy (ds[j]? = es[j]?)) && ds.length == es.length) = dy (Dv.tup ds = .tup es) := by
 refine dM ?_
 rw [Bool.and_eq_true, List.all_eq_true, beq_iff_eq]
 constructor
 ·rintro ⟨h, hl⟩
  congr 1
  refine List.ext_getElem? fun j => ?_
  by_cases hj : j < ds.length
  ·exact cA.mp (h j (List.mem_range.mpr (by omega)))
  ·rw [List.getElem?_eq_none (by omega), List.getElem?_eq_none (by omega)]
 ·intro h
  cases h
  exact ⟨fun j _ => cA.mpr rfl, rfl⟩
section
variable {X : Cx} {pins : List (Addr × Obj)} {σ : St} {H : Hp} {s : Shared}
theorem fC (I : Inv X pins σ H s) {A : Around} {n : Nat} {ds es : List Dv} {vs ws : List V} {its its2 : List Value}
  (h : ∀ d ∈ ds, ∀ e ∈ es, ∀ (v w : V) (a b : Value), Rep H d v -> Rep H e w -> aQ v a -> aQ w b -> SeqAt.EqAt A s a b (dy (d = e))) (rs1 : aj H ds vs) (rs2 : aj H es ws) (rv1 : aL vs its) (rv2 : aL ws its2) :
  its.toArray.size = ds.length /\ its2.toArray.size = es.length /\ ∀ j (h1 : j < its.toArray.size) (h2 : j < its2.toArray.size), SeqAt.EqAt A s its.toArray[j] its2.toArray[j] (dy (ds[j]? = es[j]?)) := by
 have l1 := rs1.length
 have l2 := rs2.length
 have l3 := rv1.length
 have l4 := rv2.length
 refine ⟨by simp; omega, by simp; omega, fun j h1 h2 => ?_⟩
 have hj : j < its.length := by simpa using h1
 have hj2 : j < its2.length := by simpa using h2
 obtain ⟨u, hu1, ru⟩ := aL.get (i := j) (x := vs[j]'(by omega)) rv1 (List.getElem?_eq_getElem _)
 obtain ⟨u2, hu2, ru2⟩ := aL.get (i := j) (x := ws[j]'(by omega)) rv2 (List.getElem?_eq_getElem _)
 obtain ⟨d, hd, Rd⟩ := rs1.get (i := j) (v := vs[j]'(by omega)) (List.getElem?_eq_getElem _)
 obtain ⟨d2, hd2, Rd2⟩ := rs2.get (i := j) (v := ws[j]'(by omega)) (List.getElem?_eq_getElem _)
 have e1 : its.toArray[j] = u := by
  rw [List.getElem?_eq_getElem hj] at hu1
  simpa using Option.some.inj hu1
 have e2 : its2.toArray[j] = u2 := by
  rw [List.getElem?_eq_getElem hj2] at hu2
  simpa using Option.some.inj hu2
 rw [e1, e2, hd, hd2]
 have e3 : dy (some d = some d2) = dy (d = d2) := dM (by rw [cA]; exact ⟨Option.some.inj, fun z => by rw [z]⟩)
 rw [e3]
 exact h d (List.mem_of_getElem? hd) d2 (List.mem_of_getElem? hd2) _ _ _ _ Rd Rd2 ru ru2
theorem kb (I : Inv X pins σ H s) {n : Nat} {d : Dv} (h : Pl n d) : ∀ {e : Dv}, Pl n e -> ∀ {A : Around} {v w : V} {a b : Value}, A.units + n < cLine -> Rep H d v -> Rep H e w -> aQ v a -> aQ w b -> SeqAt.EqAt A s a b (dy (d = e)) := by
 induction h with
 | @int n i =>
  intro e he A v w a b hu r1 r2 q1 q2
  simp only [Rep] at r1
  subst r1
  obtain ⟨t, rfl⟩ := (show ∃ t, a = Value.int i t from q1)
  cases he with
  | @int _ j => simp only [Rep] at r2; subst r2; obtain ⟨u, rfl⟩ := (show ∃ t, b = Value.int j t from q2); rw [<- dM (b := (i == j)) (by rw [beq_iff_eq]; exact ⟨fun z => by rw [z], fun z => Dv.int.inj z⟩)]; exact SeqAt.EqAt.int_int i t j u
  | @str _ x => simp only [Rep] at r2; subst r2; obtain ⟨u, rfl⟩ := (show ∃ t, b = Value.str x t from q2); rw [<- cX nofun]; exact SeqAt.EqAt.int_str i t x u
  | non => simp only [Rep] at r2; subst r2; cases q2; rw [<- cX nofun]; exact SeqAt.EqAt.int_none i t
  | @tup n es _ => simp only [Rep] at r2; obtain ⟨l, ws, rfl, hl, _⟩ := r2; cases q2; obtain ⟨its, _, p, _⟩ := I.tuple (SqT.of hl); rw [<- cX nofun]; exact SeqAt.EqAt.int_tuple i t p (by omega)
 | @str n x =>
  intro e he A v w a b hu r1 r2 q1 q2
  simp only [Rep] at r1
  subst r1
  obtain ⟨t, rfl⟩ := (show ∃ t, a = Value.str x t from q1)
  cases he with
  | @int _ j => simp only [Rep] at r2; subst r2; obtain ⟨u, rfl⟩ := (show ∃ t, b = Value.int j t from q2); rw [<- cX nofun]; exact SeqAt.EqAt.str_int x t j u
  | @str _ y => simp only [Rep] at r2; subst r2; obtain ⟨u, rfl⟩ := (show ∃ t, b = Value.str y t from q2); rw [<- dM (b := (x == y)) (by rw [beq_iff_eq]; exact ⟨fun z => by rw [z], fun z => Dv.str.inj z⟩)]; exact SeqAt.EqAt.str_str x t y u
  | non => simp only [Rep] at r2; subst r2; cases q2; rw [<- cX nofun]; exact SeqAt.EqAt.str_none x t
  | @tup n es _ => simp only [Rep] at r2; obtain ⟨l, ws, rfl, hl, _⟩ := r2; cases q2; obtain ⟨its, _, p, _⟩ := I.tuple (SqT.of hl); rw [<- cX nofun]; exact SeqAt.EqAt.str_tuple x t p (by omega)
 | @non n =>
  intro e he A v w a b hu r1 r2 q1 q2
  simp only [Rep] at r1
  subst r1
  cases q1
  cases he with
  | @int _ j => simp only [Rep] at r2; subst r2; obtain ⟨u, rfl⟩ := (show ∃ t, b = Value.int j t from q2); rw [<- cX nofun]; exact SeqAt.EqAt.none_int j u
  | @str _ y => simp only [Rep] at r2; subst r2; obtain ⟨u, rfl⟩ := (show ∃ t, b = Value.str y t from q2); rw [<- cX nofun]; exact SeqAt.EqAt.none_str y u
  | non => simp only [Rep] at r2; subst r2; cases q2; rw [<- dM (b := true) ⟨fun _ => rfl, fun _ => rfl⟩]; exact SeqAt.EqAt.same _
  | @tup n es _ => simp only [Rep] at r2; obtain ⟨l, ws, rfl, hl, _⟩ := r2; cases q2; obtain ⟨its, _, p, _⟩ := I.tuple (SqT.of hl); rw [<- cX nofun]; exact SeqAt.EqAt.none_tuple p (by omega)
 | @tup n ds hds ih =>
  intro e he A v w a b hu r1 r2 q1 q2
  have r1' := r1
  simp only [Rep] at r1
  obtain ⟨l, vs, rfl, h1, rs1⟩ := r1
  cases q1
  obtain ⟨its, rv1, p1, _⟩ := I.tuple (SqT.of h1)
  cases he with
  | @int _ j => simp only [Rep] at r2; subst r2; obtain ⟨u, rfl⟩ := (show ∃ t, b = Value.int j t from q2); rw [<- cX nofun]; exact SeqAt.EqAt.tuple_int j u p1 (by omega)
  | @str _ y => simp only [Rep] at r2; subst r2; obtain ⟨u, rfl⟩ := (show ∃ t, b = Value.str y t from q2); rw [<- cX nofun]; exact SeqAt.EqAt.tuple_str y u p1 (by omega)
  | non => simp only [Rep] at r2; subst r2; cases q2; rw [<- cX nofun]; exact SeqAt.EqAt.tuple_none p1 (by omega)
  | @tup _ es hes =>
   have r2' := r2
   simp only [Rep] at r2
   obtain ⟨b', ws, rfl, h2, rs2⟩ := r2
   cases q2
   obtain ⟨its2, rv2, p2, _⟩ := I.tuple (SqT.of h2)
   have hu' : A.in1.units + n < cLine := by show A.units + 1 + n < cLine; omega
   obtain ⟨z1, z2, q⟩ := fC I (A := A.in1) (n := n) (fun d hd e he v w a b r1 r2 q1 q2 => ih d hd (hes e he) hu' r1 r2 q1 q2) rs1 rs2 rv1 rv2
   by_cases hlb : l = b'
   ·subst hlb
    rw [<- dM (b := true) ⟨fun _ => Rep.inj _ _ _ r1' r2', fun _ => rfl⟩]
    exact SeqAt.EqAt.same _
   ·have r := SeqAt.RcAt.tuples (e := fun j => dy (ds[j]? = es[j]?)) p1 p2 (by omega) q
    rw [z1, z2, nt] at r
    exact SeqAt.EqAt.of_refs hlb r
end
section
variable {X : Cx}
end
theorem iI {A : Around} {k : Nat} (hr : dR k A) : A.units + 150 < cLine := by have := hr.un; omega
section
variable {X : Cx} {k : Nat} {f : Addr} {fd : FuncData} {ps : List Str} {sp : Sp} {x : Str} {p pos : Pos} {e : Expr} {es : List Expr} {t : TA}
def wL (f : Addr) (i : Nat) (sp : Sp) (t : TA) : TE := fun σ H Q => σ[i]? = some (some (.ref f)) /\ t σ H fun vs H1 => sp (vs ++ []) H1 Q E0
theorem sv (i : Nat) (F : bi X.prog X.w X.K X.mg X.base CX0 k f fd ps sp) (hr : dR k X.A) (hk : PySem.W.keepIn X.K (.ref f) = true) (hb : gU X.K fd ps []) (ha : PA X (e :: es) t) (hN : X.N[i]? = some x := by rfl)
  (hv : Vis X.env.scope x := by first | exact Or.inl rfl | exact Or.inr (Or.inl rfl) | exact Or.inr (Or.inr rfl)) (hd : (x == ("__debug__" : Str)) = false := by decide) (hcd : (x == ("__classdict__" : Str)) = false := by decide)
  (he : starEach (e :: es) X.env = (false, eval e X.env) :: starEach es X.env := by rfl) (hpl : (backTo pos (starEach es X.env)).any (·.1) = false := by rfl) : PE X (.Call (.Name x p) (e :: es) [] pos) (wL f i sp t) := by
 intro pins s σ H Q I h
 obtain ⟨h1, h2⟩ := h
 refine wpAny_Call_Name_kw (thn (sh (X := X) (pos := p) hN hv hd hcd pins s σ H (fun v H' => v = .ref f /\ H' = H) I ⟨_, h1, rfl, rfl⟩) fun u s1 ⟨v, H1, I1, r1, e1, e2⟩ => ?_)
 subst e1 e2
 cases r1
 exact PySem.W.callWith_K (h₀ := X.base) I1.ok.mod.kin hk (thn (ha pos pins s1 σ _ _ I1 h2) fun us s2 ⟨vs, H2, I2, r, q⟩ => ⟨I2.kIn, rG F hr hb .nil vn I2 r q⟩) he hpl
end
section
variable {prog : Program} {w : World} {A : Around} {E : Value -> Shared -> Prop} {s : Shared} {r l S : Addr} {items : Array Value}
theorem qH : typeLookup (.type "list_reverseiterator") "__len__" = pure none := by rw [typeLookup_type, builtinLookup_eq_fast]; kernel_rfl
theorem rC : typeLookup (.type "list_reverseiterator") "__length_hint__" = pure (some (.builtin "list_reverseiterator.__length_hint__")) := by rw [typeLookup_type, builtinLookup_eq_fast]; kernel_rfl
theorem rV {Q : Bool -> Shared -> Prop} (hT : s.TypeIs (.ref r) "list_reverseiterator") (h : ∀ b, Q b s) : wpAny (model prog w) A (Builtin.List.listLengthHint (.ref r)) Q E s := by
 unfold Builtin.List.listLengthHint
 refine wpAny_bind (wpAny_specialOf hT qH ?_)
 show wpAny _ A (specialOf (Value.ref r) (Str.ofString "__length_hint__") >>= _) _ _ _
 refine wpAny_bind (wpAny_specialOf hT rC ?_)
 generalize hid : ("list_reverseiterator.__length_hint__" : String) = id0
 wp_delta
 rw [show splitId id0 = some ("list_reverseiterator", "__length_hint__") from by subst hid; decide +kernel]
 subst hid
 refine wpAny_bind (wpAny_isInstance (b := true) hT (by rw [isSubtype_type]; kernel_rfl) ?_)
 exact wpAny_pure (h _)
theorem nE {R : Result -> Shared -> Prop} (hh : A.handled = none) (hr : s.heap.IsRevIter r l ((items.size : Int) - 1)) (hl : s.heap.IsList l items) (hlr : l ≠ r) (hSr : S ≠ r) (hSl : S ≠ l) (res : Value) (c₀ : Nat) (hS : s.heap.get? S = some { cls := .type "list", data := .seq #[] c₀ })
  (hR : ∀ h' tk acc' c', (∀ b o, b ≠ S -> b ≠ r -> s.heap.get? b = some o -> h'.get? b = some o) -> h'.get? S = some { cls := .type "list", dict := none, data := .seq acc' c', slots := #[] } -> ItemsOf (fun i v => items[items.size - 1 - i]? = some v) acc' items.size -> R (.ok (.ret res)) { s with heap := h', toks := tk }) (hn : items.size <= sizeLine) :
  wpAny (model prog w) A.in1 (Builtin.List.listExtendWith (.ref S) (.ref r) res) (fun fin s' => match fin with | .done f => R (.ok f) s' | .again c' => c'.quiet = true /\ codeAny (model prog w) A c' R s') (fun e s' => R (.error e) s') s := by
 have W := Walks.listRev (prog := prog) (w := w) (A := A.in1) hh r l hlr items
 have hSf : S ∉ [r, l] := by simp only [List.mem_cons, List.not_mem_nil, or_false, not_or]; exact ⟨hSr, hSl⟩
 have e0 : (items.size : Int) - 1 - ((0 : Nat) : Int) = (items.size : Int) - 1 := by omega
 have key : ∀ (h : Heap) (c₁ tk : Nat), (∀ b o, b ≠ S -> s.heap.get? b = some o -> h.get? b = some o) -> h.get? S = some { cls := .type "list", data := .seq #[] c₁ } -> codeAny (model prog w) A (.builtin "list.extend.loop" ⟨[.ref S, .ref r, res], []⟩) R { s with heap := h, toks := tk } := by
  intro h c₁ tk hk hS₁
  refine codeAny_extend_loopS W.toS hn S hSf res items.size 0 _ #[] c₁ rfl (Nat.zero_le _) ⟨Nat.zero_le _, by rw [e0]; exact hr.at fun o e => hk r o (Ne.symm hSr) e, hl.at fun o e => hk l o (Ne.symm hSl) e⟩ hS₁ (ItemsOf.nil _) fun s' acc' c' hm hS' hacc => ?_
  rw [Moved.eq_with hm]
  refine hR s'.heap s'.toks acc' c' (fun b o hb hbr e => hm.heap b o (fun z => ?_) (hk b o hb e)) hS' hacc
  rcases List.mem_cons.mp z with z | z
  ·exact hb z
  ·exact hbr (List.mem_singleton.mp z)
 unfold Builtin.List.listExtendWith
 refine wpAny_bind (wpAny_typeOf (T := "list_reverseiterator") hr.typeIs ?_)
 have h1 : Builtin.List.listSameRef (.ref S) (.ref r) = false := by simp [Builtin.List.listSameRef, hSr]
 rw [if_neg (by rw [h1]; decide)]
 refine wpAny_bind (wpAny_pyIter_revIter hr ?_)
 refine wpAny_bind (wpAny_holding (rV hr.typeIs fun b => ?_))
 refine wpAny_ite_split (fun _ => ?_) (fun _ => wpAny_pure ⟨plainId_quiet PySem.F.plain_extend_loop _, key _ c₀ _ (fun b o _ e => e) hS⟩)
 refine wpAny_bind (wpAny_rule (wpAny_bind ?_)); show wpAny _ _ (updateSeq S (·.push .none) >>= fun _ => updateSeq S (·.pop)) _ _ _
 refine wpAny_bind (wpAny_updateSeq hS rfl ?_)
 have hS₂ := Heap.get?_update_self (Obj.mapSeq (·.push Value.none)) hS rfl
 refine wpAny_updateSeq (hz := by seq_fits) hS₂ rfl ?_
 have hS₃ := Heap.get?_update_self (Obj.mapSeq (·.pop)) hS₂ rfl
 exact wpAny_pure ⟨plainId_quiet PySem.F.plain_extend_loop _, key _ _ _ (fun b o hb e => (Heap.get?_update_other _ _ (Ne.symm hb)).trans ((Heap.get?_update_other _ _ (Ne.symm hb)).trans e)) hS₃⟩
theorem rZ {R : Result -> Shared -> Prop} (hh : A.handled = none) (hr : s.heap.IsRevIter r l ((items.size : Int) - 1)) (hl : s.heap.IsList l items) (hlr : l ≠ r) (hSr : S ≠ r) (hSl : S ≠ l) (hS : s.heap.get? S = some { cls := .type "list", data := .seq #[] })
  (hR : ∀ h' tk acc' c', (∀ b o, b ≠ S -> b ≠ r -> s.heap.get? b = some o -> h'.get? b = some o) -> h'.get? S = some { cls := .type "list", dict := none, data := .seq acc' c', slots := #[] } -> ItemsOf (fun i v => items[items.size - 1 - i]? = some v) acc' items.size -> R (.ok (.ret .none)) { s with heap := h', toks := tk }) (hn : items.size <= sizeLine) :
  wpAny (model prog w) A.in1 (Builtin.«list.__init__» ⟨[.ref S, .ref r], []⟩) (fun fin s' => match fin with | .done f => R (.ok f) s' | .again c' => c'.quiet = true /\ codeAny (model prog w) A c' R s') (fun e s' => R (.error e) s') s := by
 show wpAny _ _ (do let old <- Builtin.List.listItems (.ref S); Builtin.List.listUpdate (.ref S) (fun _ => #[]); letGo old.toList.reverse; Builtin.List.listExtendWith (.ref S) (.ref r) .none) _ _ s; refine wpAny_bind ?_
 unfold Builtin.List.listItems; refine wpAny_bind (wpAny_seqItems hS rfl (wpAny_pure ?_))
 show wpAny _ _ (updateSeq S (fun _ => #[]) >>= fun _ => letGo (#[] : Array Value).toList.reverse >>= fun _ => Builtin.List.listExtendWith (.ref S) (.ref r) .none) _ _ s; refine wpAny_bind (wpAny_updateSeq hS rfl ?_)
 have hS₂ := Heap.get?_update_self (Obj.mapSeq (fun _ => (#[] : Array Value))) hS rfl
 have oth : ∀ b o, b ≠ S -> s.heap.get? b = some o -> (s.heap.update S (Obj.mapSeq (fun _ => (#[] : Array Value)))).get? b = some o := fun b o hb e => (Heap.get?_update_other _ _ (Ne.symm hb)).trans e
 refine wpAny_bind (wpAny_letGo (nE hh (hr.at fun o e => oth r o (Ne.symm hSr) e) (hl.at fun o e => oth l o (Ne.symm hSl) e) hlr hSr hSl .none _ hS₂ (fun h' tk acc' c' hk hS' hacc => ?_) hn))
 exact hR h' tk acc' c' (fun b o hb hbr e => hk b o hb hbr (oth b o hb e)) hS' hacc
theorem rp {Q : Value -> Shared -> Prop} (hh : A.handled = none) (hr : s.heap.IsRevIter r l ((items.size : Int) - 1)) (hl : s.heap.IsList l items) (hlr : l ≠ r) (hn : items.size <= sizeLine)
  (hQ : ∀ h' tk acc' c', (∀ b o, b ≠ r -> s.heap.get? b = some o -> h'.get? b = some o) -> h'.get? s.heap.objs.size = some { cls := .type "list", dict := none, data := .seq acc' c', slots := #[] } -> ItemsOf (fun i v => items[items.size - 1 - i]? = some v) acc' items.size -> Q (.ref s.heap.objs.size) { s with heap := h', toks := tk }) :
  wpAny (model prog w) A (call (.type "list") [.ref r]) Q E s := by
 refine callType_codes (Q₁ := fun obj s₁ => obj = .ref s.heap.objs.size /\ s₁ = { s with heap := s.heap.push { cls := .type "list", data := .seq #[] } }) PySem.F.called_list (PySem.F.typeCall_list_1 _) PySem.F.entry_list_init (code_list_new _ ⟨rfl, rfl⟩) fun obj s₁ h₁ => ?_
 obtain ⟨rfl, rfl⟩ := h₁
 have hS : (s.heap.push { cls := .type "list", data := .seq #[] }).get? s.heap.objs.size = some { cls := .type "list", data := .seq #[] } := Heap.get?_push_size _ rfl
 have hr' : r < s.heap.objs.size := let ⟨o, ho, _⟩ := hr; Heap.lt_size ho
 have hl' : l < s.heap.objs.size := let ⟨o, ho, _⟩ := hl; Heap.lt_size ho
 refine ⟨⟨_, hS, rfl⟩, PySem.F.args_list_init_2 _ _, rZ (A := A.in1) hh (hr.at fun o e => Heap.get?_push_of_some _ e) (hl.at fun o e => Heap.get?_push_of_some _ e) hlr (Nat.ne_of_gt hr') (Nat.ne_of_gt hl') hS (fun h' tk acc' c' hk hS' hacc => ?_) hn⟩
 exact ⟨rfl, hQ h' tk acc' c' (fun b o hb e => hk b o (Nat.ne_of_lt (Heap.lt_size e)) hb (Heap.get?_push_of_some _ e)) hS' hacc⟩
end
section
variable {X : Cx} {e : Expr} {te : TE} {p p1 pos pos1 : Pos}
def qZ (K : PySem.W.Frag) (te : TE) : TE := fun σ H Q => te σ H fun x H1 => ∃ l ys, x = .ref l /\ SqL K H1 l ys /\ ∀ a, H1 a = none -> Q (.ref a) (upd H1 a (.lst ys.reverse))
theorem on (hg : Gl X "list") (hm : X.mg "list" = none) (hg' : Gl X "reversed") (hm' : X.mg "reversed" = none) (hc : X.calm = true) (he : PE X e te)
  (hs : starEach [e] X.env = [(false, eval e X.env)] := by rfl) (hs2 : starEach [.Call (.Name "reversed" p1) [e] [] pos1] X.env = [(false, eval (.Call (.Name "reversed" p1) [e] [] pos1) X.env)] := by rfl) :
  PE X (.Call (.Name "list" p) [.Call (.Name "reversed" p1) [e] [] pos1] [] pos) (qZ X.K te) := by
 intro pins s σ H Q I h
 refine wpAny_Call_Name_kw (eC I hg hm (u := .type "list") (by decide +kernel) ?_)
 refine PyProof.Rows.callWith_type1 ?_ hs2 rfl
 rw [hs2]
 show wpAny _ _ (spliced ((false, eval (.Call (.Name "reversed" p1) [e] [] pos1) X.env) :: backTo pos [])) _ _ s
 refine Calls.spliced_cons (wpAny_Call_Name_kw (eC I hg' hm' (u := .type "reversed") (by decide +kernel) (PyProof.Rows.callWith_type1 ?_ hs rfl)))
 rw [hs]
 show wpAny _ _ (spliced ((false, eval e X.env) :: backTo pos1 [])) _ _ s
 refine Calls.spliced_cons (thn (he pins s σ H _ I h) fun u s1 ⟨x, H1, I1, r1, l, ys, ex, hq, q⟩ => Calls.spliced_nil ?_)
 subst ex
 cases r1
 obtain ⟨its, rv, pl, hz⟩ := I1.list hq
 have li : its.length = ys.length := rv.length.symm
 have hl' : l < s1.heap.objs.size := let ⟨o, ho, _⟩ := pl.isList; Heap.lt_size ho
 refine call_reversed_list pl.isList (Calls.spliced_nil ?_)
 refine rp (A := X.A) (s := { s1 with heap := s1.heap.push (revObj l ((its.toArray.size : Int) - 1)) }) (I1.ok.hd hc) ⟨_, Heap.get?_push_size _ rfl, rfl, rfl⟩ (pl.isList.at fun o e => Heap.get?_push_of_some _ e) (Nat.ne_of_lt hl') (by simp; omega) fun h' tk acc c k hS it => ?_
 have k1 : ∀ b o, s1.heap.get? b = some o -> h'.get? b = some o := fun b o e => k b o (Nat.ne_of_lt (Heap.lt_size e)) (Heap.get?_push_of_some _ e)
 have rv' : aL ys.reverse acc.toList := by
  refine kO (by have h1 := it.1; have h2 : acc.toList.length = acc.size := Array.length_toList; rw [List.length_reverse, h2, h1]; simpa using li.symm) fun i x u h1 h2 => ?_
  have hi : i < ys.length := by have := (List.getElem?_eq_some_iff.mp h1).1; rwa [List.length_reverse] at this
  rw [List.getElem?_reverse hi] at h1
  have h3 := it.2 i u (by rw [<- Array.getElem?_toList]; exact h2)
  have h4 : its[ys.length - 1 - i]? = some u := by simpa [li] using h3
  obtain ⟨u', hu', ru⟩ := rv.get h1
  rw [h4] at hu'
  cases hu'
  exact ru
 have hz2 : (s1.heap.push (revObj l ((its.toArray.size : Int) - 1))).objs.size = s1.heap.objs.size + 1 := Heap.size_push ..
 refine ⟨.ref (s1.heap.push (revObj l ((its.toArray.size : Int) - 1))).objs.size, _, I1.laid (t' := tk) (a := (s1.heap.push (revObj l ((its.toArray.size : Int) - 1))).objs.size) k1 (by rw [hz2]; exact Nat.le_succ _) (show bo X.prog X.w _ h' _ (.lst ys.reverse) from ⟨by rw [List.length_reverse]; exact hz, acc.toList, c, rv', by simpa using hS⟩), rfl, q _ (I1.hok.fresh (by rw [hz2]; exact Nat.le_succ _))⟩
end
theorem cY {h : Heap} {a b : Addr} {o u : Obj} (h1 : h.get? a = some o) (h2 : h.get? b = some u) (n : o.cls ≠ u.cls) : a ≠ b := fun z => by subst z; rw [h1] at h2; cases h2; exact n rfl
section
variable {X : Cx}
end
theorem sf {xs : List V} {us : List Value} (h : aL xs us) : aL xs.reverse us.reverse := by
 have hl := h.length
 refine kO (by rw [List.length_reverse, List.length_reverse, hl]) fun i x u h1 h2 => ?_
 have hi : i < xs.length := by have := (List.getElem?_eq_some_iff.mp h1).1; rwa [List.length_reverse] at this
 rw [List.getElem?_reverse hi] at h1
 rw [List.getElem?_reverse (by omega), <- hl] at h2
 obtain ⟨u', hu', ru⟩ := h.get h1
 rw [h2] at hu'
 cases hu'
 exact ru
section
variable {X : Cx} {pins : List (Addr × Obj)} {s : Shared} {σ : St} {H : Hp}
end
section
variable {X : Cx}
end
section
end
section
variable {prog : Program} {w : World} {A : Around} {E : Value -> Shared -> Prop} {s : Shared}
end
section
variable {X : Cx} {tg e : Expr} {ta : TA} {p pos : Pos}
end
section
variable {X : Cx}
end
section
variable {X : Cx}
end
open PySem PySem.Spec PyProof.Rows
section
variable {σ : St} {H : Hp} {d e : Dv} {ds es : List Dv} {ta tb : TE} {t : TA} {l : Addr}
variable {i : Nat} {u : TS} {D : dc}
end
open PySem PySem.Spec PyProof.Rows PySem.W
section
variable {X : Cx}
end
section
variable {prog : Program} {w : World} {A : Around} {E : Value -> Shared -> Prop} {s : Shared}
theorem ni {t sl : Addr} {items : Array Value} {lo st : Int} {n : Nat} {Q : Value -> Shared -> Prop} (ht : IsTup s.heap t items) (hTs : s.TypeIs (.ref sl) "slice")
  (hap : ∀ {A' : Around} {E' : Value -> Shared -> Prop} {Q' : Int × Int × Nat -> Shared -> Prop}, Q' (lo, st, n) s -> wpAny (model prog w) A' (Builtin.Slice.sliceApplied (.ref sl) (pure (items.size : Int))) Q' E' s)
  (hw : (lo == 0 && st == 1 && n == items.size) = true -> Q (.ref t) s)
  (hn : Q (.ref s.heap.objs.size) { s with heap := s.heap.push { cls := .type "tuple", data := .seq ((List.range n).filterMap fun (k : Nat) => items[(lo + (k : Int) * st).toNat]?).toArray } })
  (hsz : ((List.range n).filterMap fun (k : Nat) => items[(lo + (k : Int) * st).toNat]?).toArray.size <= sizeLine) : wpAny (model prog w) A (getItem (.ref t) (.ref sl)) Q E s := by
 unfold getItem; try with_reducible refine wpAny_holding ?_
 (first | refine wpAny_bind (wpAny_pure ?_) | skip); refine wpAny_bind (wpAny_sequenceKey ht.typeIs (by decide) ?_)
 refine wpAny_bind (wpAny_callSpecial?_slot (name := Str.ofString "__getitem__") ht.typeIs PyProof.Rows.slot_tuple_getitem (wpAny_call_entry PyProof.Rows.slot_tuple_getitem ht.typeIs entry_tuple_getitem ?_ (args_tuple_getitem _ _)))
 show wpAny _ _ (Builtin.Tuple.tupleItemsOf (.ref t) >>= _) _ _ s; refine wpAny_bind (tupleItemsOf_ ht ?_)
 refine wpAny_bind (wpAny_typeOf hTs ?_); rw [if_pos (by decide)]
 refine wpAny_bind (hap ?_)
 show wpAny _ _ (if (lo == 0 && st == 1 && n == items.size) = true then _ else _) _ _ s
 by_cases c : (lo == 0 && st == 1 && n == items.size) = true
 ·rw [if_pos c]
  refine wpAny_bind (m := Builtin.Tuple.tupleIsExact (.ref t)) ?_
  unfold Builtin.Tuple.tupleIsExact
  refine wpAny_bind (wpAny_typeOf ht.typeIs (wpAny_pure ?_))
  show wpAny _ _ (if (Value.type "tuple" == Value.type "tuple") = true then _ else _) _ _ s
  rw [if_pos (by decide)]
  exact wpAny_bind (wpAny_rule (wpAny_bind (wpAny_pure (wpAny_pure ⟨_, rfl, wpAny_pure (hw c)⟩))))
 ·rw [if_neg c]
  first
   | exact wpAny_bind (m := Builtin.Tuple.tupleExact _) (wpAny_newObj_type (wpAny_pure ⟨_, rfl, wpAny_pure hn⟩) hsz)
   | exact wpAny_bind (m := Builtin.Tuple.tupleExact _) (wpAny_newObj_type (wpAny_bind (wpAny_pure (wpAny_pure ⟨_, rfl, wpAny_pure hn⟩))) hsz)
   | exact wpAny_bind (wpAny_bind (m := Builtin.Tuple.tupleExact _) (wpAny_newObj_type (wpAny_pure (wpAny_pure ⟨_, rfl, wpAny_pure hn⟩)) hsz))
   | exact wpAny_bind (wpAny_bind (m := Builtin.Tuple.tupleExact _) (wpAny_newObj_type (wpAny_pure ⟨_, rfl, wpAny_pure hn⟩) hsz))
theorem sK (xs : Array Value) : ((List.range xs.size).filterMap fun (k : Nat) => xs[((xs.size : Int) - 1 + (k : Int) * (-1)).toNat]?) = xs.toList.reverse := by
 have e : ((List.range xs.size).filterMap fun (k : Nat) => xs[((xs.size : Int) - 1 + (k : Int) * (-1)).toNat]?) = (List.range xs.size).filterMap fun k => some (xs.getD (xs.size - 1 - k) .none) := by
  have cg : ∀ (l : List Nat) (f g : Nat -> Option Value), (∀ k ∈ l, f k = g k) -> l.filterMap f = l.filterMap g := fun l f g h => by
   induction l with
   | nil => rfl
   | cons x l ih => rw [List.filterMap_cons, List.filterMap_cons, h x List.mem_cons_self, ih fun k hk => h k (List.mem_cons_of_mem _ hk)]
  refine cg _ _ _ fun k hk => ?_
  rw [List.mem_range] at hk
  have e1 : ((xs.size : Int) - 1 + (k : Int) * (-1)).toNat = xs.size - 1 - k := by omega
  rw [e1]
  have h : xs.size - 1 - k < xs.size := by omega
  simp [Array.getD, h]
 rw [e, List.filterMap_eq_map']
 refine List.ext_getElem? fun i => ?_
 by_cases hi : i < xs.size
 ·rw [List.getElem?_map, List.getElem?_range hi, List.getElem?_reverse (by simpa using hi)]
  have h : xs.size - 1 - i < xs.size := by omega
  simp [Array.getD, h]
 ·rw [List.getElem?_eq_none (by simpa using hi), List.getElem?_eq_none (by simpa using hi)]
end
section
variable {X : Cx}
def xM (K : PySem.W.Frag) : V -> Option Int -> Option Int -> Hp -> VK -> Prop := fun x lo hi H Q => ∃ a xs, x = .ref a /\ SqT K H a xs /\ (bc xs lo hi = xs -> Q (.ref a) H) /\ ∀ p, H p = none -> Q (.ref p) (upd H p (.tup (bc xs lo hi)))
theorem oG : SlR X (xM X.K) := by
 intro pins s σ H x v vl vu lo hi sl Q I rx hs pl pu h
 obtain ⟨a, xs, rfl, hx, hw, q⟩ := h
 cases rx
 by_cases c : HT.sIx xs.length 0 lo = 0 /\ HT.sIx xs.length xs.length hi = xs.length
 ·obtain ⟨its, r, ht, hz⟩ := I.tuple hx
  have hlen : its.toArray.size = xs.length := by rw [List.size_toArray]; exact r.length.symm
  have ec : bc xs lo hi = xs := by unfold bc; rw [c.1, c.2]; simp
  obtain ⟨os, hos, hcs, hds⟩ := id hs
  refine ⟨"tuple", _, PyProof.Rows.slot_tuple_getitem.lookup, ht.typeIs, ni (lo := ((HT.sIx its.toArray.size 0 lo : Nat) : Int)) (st := 1) (n := HT.sIx its.toArray.size its.toArray.size hi - HT.sIx its.toArray.size 0 lo) ht ⟨os, hos, hcs⟩ (fun q' => HT.sliceApplied_gen hs pl pu q') (fun _ => ⟨.ref a, H, I, rfl, hw ec⟩) ?_ ?_⟩
  ·rw [HT.pick_gen, hlen]
   refine ⟨.ref s.heap.objs.size, _, I.laid (t' := s.toks) (o := .tup (bc xs lo hi)) (fun b ob q => Heap.get?_push_of_some _ q) (Nat.le_refl _) ?_, rfl, q _ (I.hok.fresh (Nat.le_refl _))⟩
   exact ⟨Nat.le_trans (eL xs lo hi) hz, _, (r.drop (HT.sIx xs.length 0 lo)).take (HT.sIx xs.length xs.length hi - HT.sIx xs.length 0 lo), IsTup.new _ _, NoD.new _ rfl⟩
  ·rw [HT.pick_gen, List.size_toArray, List.length_take, List.length_drop]
   have : its.toArray.toList.length = xs.length := by simpa using hlen
   omega
 ·exact wj pins s σ H (.ref a) (.ref a) vl vu lo hi sl Q I rfl hs pl pu ⟨a, xs, rfl, hx, c, q⟩
end
section
variable {prog : Program} {w : World} {A : Around} {E : Value -> Shared -> Prop} {s : Shared}
end
section
variable {X : Cx}
end
def look (kvs : List (Str × Addr)) (k : Str) : Option Addr := (kvs.find? fun p => decide (p.1 = k)).map (·.2)
structure FD (P : Program) (w : World) (K : PySem.W.Frag) (a : Addr) (kvs : List (Str × Addr)) : Prop where
 nd : (kvs.map (·.1)).Nodup
 lo : (a == sysModules) = false
 ex : ∃ o es ep, K.lookup a = some o /\ o.ExactDict /\ o.data = .dict es ep /\ KeysOf (be P w) es /\ Pairs (be P w) es.toList (kvs.map fun p => ((Sum.inr p.1 : Key), Value.ref p.2))
theorem lm (kvs : List (Str × Addr)) (k : Str) : valueAt (kvs.map fun p => ((Sum.inr p.1 : Key), Value.ref p.2)) (Sum.inr k) = (look kvs k).map Value.ref := by
 unfold valueAt look
 induction kvs with
 | nil => rfl
 | cons p kvs ih =>
  rw [List.map_cons, List.find?_cons, List.find?_cons]
  by_cases h : p.1 = k
  ·rw [decide_eq_true h, show decide ((Sum.inr p.1 : Key) = Sum.inr k) = true from decide_eq_true (by rw [h])]
   rfl
  ·rw [decide_eq_false h, show decide ((Sum.inr p.1 : Key) = Sum.inr k) = false from decide_eq_false (fun z => h (by injection z))]
   exact ih
section
variable {X : Cx} {pins : List (Addr × Obj)} {s : Shared} {σ : St} {H : Hp} {a : Addr} {kvs : List (Str × Addr)}
theorem FD.of (f : FD X.prog X.w X.K a kvs) (I : Inv X pins σ H s) : s.heap.DictOf (be X.prog X.w) a (kvs.map fun p => ((Sum.inr p.1 : Key), Value.ref p.2)) := by
 obtain ⟨o, es, ep, hk, h1, h2, h3, h4⟩ := f.ex
 refine ⟨o, es, ep, I.kIn a o hk, h1, h2, h3, h4, ?_⟩
 have e : (kvs.map fun p => ((Sum.inr p.1 : Key), Value.ref p.2)).map (·.1) = (kvs.map (·.1)).map Sum.inr := by rw [List.map_map, List.map_map]; rfl
 rw [e]
 exact List.Pairwise.map Sum.inr (fun a b h z => h (by injection z)) f.nd
def yd (a : Addr) (kvs : List (Str × Addr)) (neg : Bool) : R2 := fun x y H Q => ∃ k, x = .str k /\ y = .ref a /\ Q (.bl (xor neg (look kvs k).isSome)) H
theorem ju (f : FD X.prog X.w X.K a kvs) : OpR X (compareOp .NotIn) (yd a kvs true) := by
 intro pins s σ H x y v u Q I rx ry h
 obtain ⟨k, rfl, rfl, q⟩ := h
 cases ry
 refine wpAny_notIn_of (jp (k := Sum.inr k) rx) f.lo (f.of I).mapOf ?_
 rw [lm, Option.isSome_map]
 exact ⟨.bl (!(look kvs k).isSome), H, I.tok _, rfl, by simpa using q⟩
def xo (a : Addr) (kvs : List (Str × Addr)) (td ty : TE) : TE := fun σ H Q => td σ H fun x H1 => ty σ H1 fun y H2 => ∃ k b, x = .ref a /\ y = .str k /\ look kvs k = some b /\ Q (.ref b) H2
theorem pM {o i : Expr} {td ty : TE} {pos : Pos} (f : FD X.prog X.w X.K a kvs) (ho : PE X o td) (hi : PE X i ty) (hs : wQ i) : PE X (.Subscript o i pos) (xo a kvs td ty) := by
 intro pins s σ H Q I h
 refine tS PySem.F.slot_dict_getitem.lookup hs (thn (ho pins s σ H _ I h) fun u s1 ⟨x, H1, I1, rx, q1⟩ => thn (hi pins s1 σ H1 _ I1 q1) fun iv s2 ⟨y, H2, I2, ry, k, b, ex, ey, hl, q2⟩ => ?_)
 subst ex ey
 obtain rfl : u = Value.ref a := rx
 refine ⟨(f.of I2).typeIs, wpAny_getItem_of (v := .ref b) (jp (k := Sum.inr k) ry) (f.of I2).mapOf (by rw [lm, hl]; rfl) ⟨.ref b, H2, I2.tok _, rfl, q2⟩⟩
end
abbrev ku (h : Heap) (l1 : Addr) : Heap := h.push { cls := .type "tuple_iterator", data := .fields #[.ref l1, .int 0 0] }
abbrev km (h : Heap) (l1 l2 : Addr) : Heap := (ku h l1).push { cls := .type "tuple_iterator", data := .fields #[.ref l2, .int 0 0] }
abbrev kn (h : Heap) (l1 l2 : Addr) : Heap := (km h l1 l2).push { cls := .type "tuple", data := .seq #[.ref h.objs.size, .ref (ku h l1).objs.size] }
abbrev kR (h : Heap) (l1 l2 : Addr) : Heap := (kn h l1 l2).push { cls := .type "tuple", data := .seq #[.none, .none] }
abbrev gz (h : Heap) (l1 l2 : Addr) : Heap := (kR h l1 l2).push { cls := .type "zip", data := .fields #[.none, .bool false, .bool false, .ref (km h l1 l2).objs.size, .ref (kn h l1 l2).objs.size] }
section
variable {prog : Program} {w : World} {A : Around} {E : Value -> Shared -> Prop} {s : Shared}
theorem mX {z TI TO i1 i2 l1 l2 : Addr} {k1 k2 : Nat} {xs ys : Array Value} {x y a b : Value} {Q : Value -> Shared -> Prop} (D : ZipApart z TI TO i1 i2 l1 l2) (hz : IsZip s.heap z TI TO .none) (hTI : IsPair s.heap TI (.ref i1) (.ref i2)) (hTO : IsPair s.heap TO a b)
  (h1 : s.heap.IsTupleIter i1 l1 k1) (h2 : s.heap.IsTupleIter i2 l2 k2) (hl1 : s.heap.IsTuple l1 xs) (hl2 : s.heap.IsTuple l2 ys) (hx : xs[k1]? = some x) (hy : ys[k2]? = some y)
  (hQ : ∀ h', IsZip h' z TI TO (rawInt s.heap.objs.size) -> IsPair h' TO x y -> h'.IsTupleIter i1 l1 (k1 + 1) -> h'.IsTupleIter i2 l2 (k2 + 1) -> IsPair h' s.heap.objs.size x y -> (∀ c o, c ≠ z -> c ≠ TO -> c ≠ i1 -> c ≠ i2 -> s.heap.get? c = some o -> h'.get? c = some o) -> Q (.ref s.heap.objs.size) { s with heap := h' }) :
  wpAny (model prog w) A (Builtin.«zip.__next__» ⟨[.ref z], []⟩) (fun fin s' => ∃ v, fin = .done (.ret v) /\ Q v s') E s := by
 show wpAny _ _ (field (.ref z) 2 >>= _) _ _ _; refine wpAny_bind (wpAny_field hz rfl (x := .bool false) rfl ?_)
 show wpAny _ _ (field (.ref z) 3 >>= _) _ _ _; refine wpAny_bind (wpAny_field hz rfl (x := .ref TI) rfl ?_); refine wpAny_bind (wpAny_seqItems hTI rfl ?_)
 show wpAny _ _ (Builtin.SmallTypes.ownedTupleIsFree (.ref z) >>= _) _ _ _; refine wpAny_bind ?_; unfold Builtin.SmallTypes.ownedTupleIsFree
 refine wpAny_bind (wpAny_field hz rfl (x := .none) rfl (wpAny_pure ?_)); simp only [if_true]; refine wpAny_bind (wpAny_rule ?_)
 refine wpAny_bind (wpAny_field hz rfl (x := .ref TO) rfl ?_); refine wpAny_bind (wpAny_setField_rec hz (by simp) fun g1 z1 c1 => ?_)
 replace z1 : IsZip g1 z TI TO .ellipsis := z1
 refine wpAny_bind ?_; simp only [List.zipIdx_cons, List.zipIdx_nil, List.forIn_cons, List.forIn_nil]; refine wpAny_bind (wpAny_bind (wpAny_onRaise ?_))
 show wpAny _ _ (Builtin.SmallTypes.nextOf (.ref i1) >>= _) _ _ _; refine wpAny_bind (cS (h1.extBut c1.extBut D.i1z) (hl1.extBut c1.extBut D.l1z) hx fun g2 it2 c2 => wpAny_pure ?_)
 have t2 : IsPair g2 TO a b := c2.extBut _ _ D.TOi1 (c1.extBut _ _ D.TOz hTO)
 refine wpAny_bind (wpAny_seqItems t2 rfl ?_); refine wpAny_bind (wpAny_updateSeq_pair t2 fun g3 t3 c3 => ?_)
 replace t3 : IsPair g3 TO x b := t3
 refine wpAny_bind (wpAny_letGo (wpAny_pure ?_)); refine wpAny_bind (wpAny_bind (wpAny_onRaise ?_))
 show wpAny _ _ (Builtin.SmallTypes.nextOf (.ref i2) >>= _) _ _ _; refine wpAny_bind (cS (((h2.extBut c1.extBut D.i2z).extBut c2.extBut D.i12.symm).extBut c3.extBut D.TOi2.symm) (((hl2.extBut c1.extBut D.l2z).extBut c2.extBut D.l2i1).extBut c3.extBut D.l2TO) hy fun g4 it4 c4 => wpAny_pure ?_)
 have t4 : IsPair g4 TO x b := c4.extBut _ _ D.TOi2 t3
 refine wpAny_bind (wpAny_seqItems t4 rfl ?_); refine wpAny_bind (wpAny_updateSeq_pair t4 fun g5 t5 c5 => ?_)
 replace t5 : IsPair g5 TO x y := t5
 refine wpAny_bind (wpAny_letGo (wpAny_pure (wpAny_pure ?_))); refine wpAny_bind (wpAny_seqItems t5 rfl ?_); refine wpAny_bind (wpAny_newTuple ?_)
 have sz : g5.objs.size = s.heap.objs.size := by rw [c5.1, c4.1, c3.1, c2.1, c1.1]
 have z5 : IsZip g5 z TI TO .ellipsis := c5.extBut _ _ D.TOz.symm (c4.extBut _ _ D.i2z.symm (c3.extBut _ _ D.TOz.symm (c2.extBut _ _ D.i1z.symm z1)))
 have k5 : ∀ c o, c ≠ z -> c ≠ TO -> c ≠ i1 -> c ≠ i2 -> s.heap.get? c = some o -> g5.get? c = some o := fun c o d1 d2 d3 d4 e => c5.extBut _ _ d2 (c4.extBut _ _ d4 (c3.extBut _ _ d2 (c2.extBut _ _ d3 (c1.extBut _ _ d1 e))))
 have j1 : g5.IsTupleIter i1 l1 (k1 + 1) := ((it2.extBut c3.extBut D.TOi1.symm).extBut c4.extBut D.i12).extBut c5.extBut D.TOi1.symm
 have j2 : g5.IsTupleIter i2 l2 (k2 + 1) := it4.extBut c5.extBut D.TOi2.symm
 have zlt : z < g5.objs.size := Heap.lt_size z5
 show wpAny _ _ (Builtin.SmallTypes.ownedTupleHandOut (.ref z) (.ref g5.objs.size) >>= _) _ _ _; refine wpAny_bind ?_; unfold Builtin.SmallTypes.ownedTupleHandOut
 have z6 : IsZip (g5.push { cls := .type "tuple", data := .seq #[x, y] }) z TI TO .ellipsis := Heap.get?_push_of_some _ z5
 refine wpAny_bind (wpAny_setField_rec z6 (by simp) fun g7 z7 c7 => ?_)
 replace z7 : IsZip g7 z TI TO (rawInt g5.objs.size) := z7
 refine wpAny_setField_rec z7 (by simp) fun g8 z8 c8 => ?_
 replace z8 : IsZip g8 z TI TO (rawInt g5.objs.size) := z8
 have up : ∀ c o, c ≠ z -> g5.get? c = some o -> g8.get? c = some o := fun c o d1 e => c8.extBut _ _ d1 (c7.extBut _ _ d1 (Heap.get?_push_of_some _ e))
 have p8 : IsPair g8 g5.objs.size x y := c8.extBut _ _ (Nat.ne_of_gt zlt) (c7.extBut _ _ (Nat.ne_of_gt zlt) (Heap.get?_push_size _ rfl))
 rw [sz] at z8 p8
 refine wpAny_pure ⟨_, rfl, ?_⟩
 show Q (.ref g5.objs.size) _; rw [sz]
 exact hQ g8 z8 (up _ _ D.TOz t5) (j1.at fun o e => up _ o D.i1z e) (j2.at fun o e => up _ o D.i2z e) p8 fun c o d1 d2 d3 d4 e => up c o d1 (k5 c o d1 d2 d3 d4 e)
theorem qa {z TI TO i1 i2 l1 l2 : Addr} {k1 k2 : Nat} {xs ys : Array Value} {a b : Value} {Q : Fin -> Shared -> Prop} (hh : A.handled = none) (D : ZipApart z TI TO i1 i2 l1 l2) (hz : IsZip s.heap z TI TO .none) (hTI : IsPair s.heap TI (.ref i1) (.ref i2)) (hTO : IsPair s.heap TO a b)
  (h1 : s.heap.IsTupleIter i1 l1 k1) (h2 : s.heap.IsTupleIter i2 l2 k2) (hl1 : s.heap.IsTuple l1 xs) (hl2 : s.heap.IsTuple l2 ys) (hend : xs[k1]? = none \/ ys[k2]? = none)
  (hE : ∀ h' e, (∀ c o, c ≠ z -> c ≠ TO -> c ≠ i1 -> c ≠ i2 -> s.heap.get? c = some o -> h'.get? c = some o) -> (∃ o, h'.get? e = some o /\ o.cls = .type "StopIteration") -> E (.ref e) { s with heap := h' }) : wpAny (model prog w) A (Builtin.«zip.__next__» ⟨[.ref z], []⟩) Q E s := by
 show wpAny _ _ (field (.ref z) 2 >>= _) _ _ _; refine wpAny_bind (wpAny_field hz rfl (x := .bool false) rfl ?_)
 show wpAny _ _ (field (.ref z) 3 >>= _) _ _ _; refine wpAny_bind (wpAny_field hz rfl (x := .ref TI) rfl ?_); refine wpAny_bind (wpAny_seqItems hTI rfl ?_)
 show wpAny _ _ (Builtin.SmallTypes.ownedTupleIsFree (.ref z) >>= _) _ _ _; refine wpAny_bind ?_; unfold Builtin.SmallTypes.ownedTupleIsFree
 refine wpAny_bind (wpAny_field hz rfl (x := .none) rfl (wpAny_pure ?_)); simp only [if_true]; refine wpAny_bind (wpAny_rule ?_)
 refine wpAny_bind (wpAny_field hz rfl (x := .ref TO) rfl ?_); refine wpAny_bind (wpAny_setField_rec hz (by simp) fun g1 z1 c1 => ?_)
 replace z1 : IsZip g1 z TI TO .ellipsis := z1
 refine wpAny_bind ?_; simp only [List.zipIdx_cons, List.zipIdx_nil, List.forIn_cons, List.forIn_nil]; refine wpAny_bind (wpAny_bind (wpAny_onRaise ?_))
 show wpAny _ _ (Builtin.SmallTypes.nextOf (.ref i1) >>= _) _ _ _
 cases hx : xs[k1]? with
 | none =>
  refine wpAny_bind (eQ hh (h1.extBut c1.extBut D.i1z) (hl1.extBut c1.extBut D.l1z) hx fun g2 e c2 ⟨oe, hoe, hce⟩ => ?_)
  have z2 : IsZip g2 z TI TO .ellipsis := c2 _ _ D.i1z.symm z1
  have ez : e ≠ z := fun q => by subst q; rw [z2] at hoe; cases hoe; simp at hce
  exact wpAny_setField_rec z2 (by simp) fun g3 _ c3 => hE g3 e (fun c o d1 _ d3 _ q => c3.extBut _ _ d1 (c2 _ _ d3 (c1.extBut _ _ d1 q))) ⟨oe, c3.extBut _ _ ez hoe, hce⟩
 | some x =>
  have hy : ys[k2]? = none := hend.resolve_left (by rw [hx]; exact nofun)
  refine wpAny_bind (cS (h1.extBut c1.extBut D.i1z) (hl1.extBut c1.extBut D.l1z) hx fun g2 it2 c2 => wpAny_pure ?_)
  have t2 : IsPair g2 TO a b := c2.extBut _ _ D.TOi1 (c1.extBut _ _ D.TOz hTO)
  refine wpAny_bind (wpAny_seqItems t2 rfl ?_); refine wpAny_bind (wpAny_updateSeq_pair t2 fun g3 t3 c3 => ?_)
  refine wpAny_bind (wpAny_letGo (wpAny_pure ?_)); refine wpAny_bind (wpAny_bind (wpAny_onRaise ?_))
  show wpAny _ _ (Builtin.SmallTypes.nextOf (.ref i2) >>= _) _ _ _; refine wpAny_bind (eQ hh (((h2.extBut c1.extBut D.i2z).extBut c2.extBut D.i12.symm).extBut c3.extBut D.TOi2.symm) (((hl2.extBut c1.extBut D.l2z).extBut c2.extBut D.l2i1).extBut c3.extBut D.l2TO) hy fun g4 e c4 ⟨oe, hoe, hce⟩ => ?_)
  have z4 : IsZip g4 z TI TO .ellipsis := c4 _ _ D.i2z.symm (c3.extBut _ _ D.TOz.symm (c2.extBut _ _ D.i1z.symm z1))
  have ez : e ≠ z := fun q => by subst q; rw [z4] at hoe; cases hoe; simp at hce
  exact wpAny_setField_rec z4 (by simp) fun g5 _ c5 => hE g5 e (fun c o d1 d2 d3 d4 q => c5.extBut _ _ d1 (c4 _ _ d4 (c3.extBut _ _ d2 (c2.extBut _ _ d3 (c1.extBut _ _ d1 q))))) ⟨oe, c5.extBut _ _ ez hoe, hce⟩
theorem mo {z TI TO i1 i2 l1 l2 : Addr} {k1 k2 : Nat} {xs ys : Array Value} {x y a b : Value} {Q : Option Value -> Shared -> Prop} (D : ZipApart z TI TO i1 i2 l1 l2) (hz : IsZip s.heap z TI TO .none) (hTI : IsPair s.heap TI (.ref i1) (.ref i2)) (hTO : IsPair s.heap TO a b)
  (h1 : s.heap.IsTupleIter i1 l1 k1) (h2 : s.heap.IsTupleIter i2 l2 k2) (hl1 : s.heap.IsTuple l1 xs) (hl2 : s.heap.IsTuple l2 ys) (hx : xs[k1]? = some x) (hy : ys[k2]? = some y)
  (hQ : ∀ h', IsZip h' z TI TO (rawInt s.heap.objs.size) -> IsPair h' TO x y -> h'.IsTupleIter i1 l1 (k1 + 1) -> h'.IsTupleIter i2 l2 (k2 + 1) -> IsPair h' s.heap.objs.size x y -> (∀ c o, c ≠ z -> c ≠ TO -> c ≠ i1 -> c ≠ i2 -> s.heap.get? c = some o -> h'.get? c = some o) -> Q (some (.ref s.heap.objs.size)) { s with heap := h' }) :
  wpAny (model prog w) A (pyNext (.ref z)) Q E s := by
 have hT : s.TypeIs (.ref z) "zip" := ⟨_, hz, rfl⟩; unfold pyNext
 exact wpAny_bind (wpAny_attempt (wpAny_callSpecial?_slot (name := Str.ofString "__next__") hT F.slot_zip_next (wpAny_call_entry F.slot_zip_next hT F.entry_zip_next (mX D hz hTI hTO h1 h2 hl1 hl2 hx hy fun h' a1 a2 a3 a4 a5 a6 => wpAny_pure (hQ h' a1 a2 a3 a4 a5 a6)) (F.args_zip_next_1 _))))
theorem nU {z TI TO i1 i2 l1 l2 : Addr} {k1 k2 : Nat} {xs ys : Array Value} {a b : Value} {Q : Option Value -> Shared -> Prop} (hh : A.handled = none) (D : ZipApart z TI TO i1 i2 l1 l2) (hz : IsZip s.heap z TI TO .none) (hTI : IsPair s.heap TI (.ref i1) (.ref i2)) (hTO : IsPair s.heap TO a b)
  (h1 : s.heap.IsTupleIter i1 l1 k1) (h2 : s.heap.IsTupleIter i2 l2 k2) (hl1 : s.heap.IsTuple l1 xs) (hl2 : s.heap.IsTuple l2 ys) (hend : xs[k1]? = none \/ ys[k2]? = none)
  (hQ : ∀ h', (∀ c o, c ≠ z -> c ≠ TO -> c ≠ i1 -> c ≠ i2 -> s.heap.get? c = some o -> h'.get? c = some o) -> Q none { s with heap := h' }) : wpAny (model prog w) A (pyNext (.ref z)) Q E s := by
 have hT : s.TypeIs (.ref z) "zip" := ⟨_, hz, rfl⟩; unfold pyNext
 refine wpAny_bind (wpAny_attempt (wpAny_callSpecial?_slot (name := Str.ofString "__next__") hT F.slot_zip_next (wpAny_call_entry F.slot_zip_next hT F.entry_zip_next (qa hh D hz hTI hTO h1 h2 hl1 hl2 hend fun h' e hk ⟨o, ho, hc⟩ => ?_) (F.args_zip_next_1 _))))
 exact wpAny_bind (wpAny_isInstance (T := "StopIteration") (b := true) ⟨o, ho, hc⟩ isSubtype_stop (wpAny_pure (hQ _ hk)))
theorem lU (l1 l2 : Addr) (xs ys : Array Value) (n n' : Nat) (dct dct' : Option Addr) (slt slt' : Array (Option Value)) :
  Meets (Builtin.«zip.__new__» ⟨[.type "zip", .ref l1, .ref l2], []⟩) (fun _ R s => s.heap.get? l1 = some { cls := .type "tuple", dict := dct', data := .seq xs n', slots := slt' } /\ s.heap.get? l2 = some { cls := .type "tuple", dict := dct, data := .seq ys n, slots := slt } /\
   R (.ok (.ret (.ref (kR s.heap l1 l2).objs.size))) { s with heap := gz s.heap l1 l2 }) :=
 .of_wp fun prog w A R s h => by
  obtain ⟨hp, g, d, tk, os⟩ := s; obtain ⟨hl1, hl2, h⟩ := h
  have hsub := sub_zip
  have hL1 : Heap.IsTuple (Shared.heap ⟨hp, g, d, tk, os⟩) l1 xs := ⟨_, hl1, rfl, n', rfl⟩
  have hl2' : (hp.push { cls := .type "tuple_iterator", data := .fields #[.ref l1, .int 0 0] }).get? l2 = some { cls := .type "tuple", dict := dct, data := .seq ys n, slots := slt } := Heap.get?_push_of_some _ hl2
  have hL2 : Heap.IsTuple (Shared.heap ⟨hp.push { cls := .type "tuple_iterator", data := .fields #[.ref l1, .int 0 0] }, g, d, tk, os⟩) l2 ys := ⟨_, hl2', rfl, n, rfl⟩
  wp_walk using wpAny_pyIter_tuple hL1, wpAny_pyIter_tuple hL2, AutoSeq1.wpAny_loadPart' hl1, AutoSeq1.wpAny_loadPart' hl2'
  exact ⟨_, rfl, h⟩
theorem nc {l1 l2 : Addr} {xs ys : Array Value} {Q : Value -> Shared -> Prop} (hl1 : s.heap.IsTuple l1 xs) (hl2 : s.heap.IsTuple l2 ys)
  (h : ∀ h', IsZip h' (s.heap.objs.size + 4) (s.heap.objs.size + 2) (s.heap.objs.size + 3) .none -> IsPair h' (s.heap.objs.size + 2) (.ref s.heap.objs.size) (.ref (s.heap.objs.size + 1)) -> IsPair h' (s.heap.objs.size + 3) .none .none -> h'.IsTupleIter s.heap.objs.size l1 0 -> h'.IsTupleIter (s.heap.objs.size + 1) l2 0 ->
   (∀ c o, s.heap.get? c = some o -> h'.get? c = some o) -> Q (.ref (s.heap.objs.size + 4)) { s with heap := h' }) : wpAny (model prog w) A (call (.type "zip") [.ref l1, .ref l2]) Q E s := by
 obtain ⟨⟨c, dct, dt, sl⟩, hl, hc, n, hd⟩ := hl2
 replace hc : c = .type "tuple" := hc
 replace hd : dt = .seq ys n := hd
 subst hc hd
 obtain ⟨⟨c', dct', dt', sl'⟩, hl', hc', n', hd'⟩ := hl1
 replace hc' : c' = .type "tuple" := hc'
 replace hd' : dt' = .seq xs n' := hd'
 subst hc' hd'
 refine callType_new F.called_zip (by decide) (F.typeCall_zip_2 _ _) (F.newCall_zip_2 _ _) (fun obj => F.args_object_init_3 obj _ _) F.entry_zip_new (lU l1 l2 xs ys n n' dct dct' sl sl') ⟨hl', hl, ?_⟩
 have y1 : (ku s.heap l1).objs.size = s.heap.objs.size + 1 := Heap.size_push ..
 have y2 : (km s.heap l1 l2).objs.size = s.heap.objs.size + 2 := by rw [Heap.size_push, y1]
 have y3 : (kn s.heap l1 l2).objs.size = s.heap.objs.size + 3 := by rw [Heap.size_push, y2]
 have y4 : (kR s.heap l1 l2).objs.size = s.heap.objs.size + 4 := by rw [Heap.size_push, y3]
 have up : ∀ {h : Heap} {o : Obj} {c : Addr} {p : Obj}, h.get? c = some p -> (h.push o).get? c = some p := fun q => Heap.get?_push_of_some _ q
 have v5 : (gz s.heap l1 l2).get? (kR s.heap l1 l2).objs.size = some _ := Heap.get?_push_size _ rfl
 have v4 : (gz s.heap l1 l2).get? (kn s.heap l1 l2).objs.size = some _ := up (Heap.get?_push_size _ rfl)
 have v3 : (gz s.heap l1 l2).get? (km s.heap l1 l2).objs.size = some _ := up (up (Heap.get?_push_size _ rfl))
 have v2 : (gz s.heap l1 l2).get? (ku s.heap l1).objs.size = some _ := up (up (up (Heap.get?_push_size _ rfl)))
 have v1 : (gz s.heap l1 l2).get? s.heap.objs.size = some _ := up (up (up (up (Heap.get?_push_size _ rfl))))
 show _ /\ _
 rw [y2, y3, y4] at v5
 rw [y1, y2] at v3
 rw [y3] at v4
 rw [y1] at v2
 rw [y4]
 exact ⟨⟨_, v5, rfl⟩, h _ v5 v3 v4 ⟨_, v1, rfl, rfl⟩ ⟨_, v2, rfl, rfl⟩ fun c o q => up (up (up (up (up q))))⟩
end
def jE (K : PySem.W.Frag) (a b : Addr) : It :=
 ⟨fun i H => ∃ xs ys x y, SqT K H a xs /\ SqT K H b ys /\ xs[i]? = some x /\ ys[i]? = some y, fun i H z H' => ∃ p x y, H p = none /\ H' = upd H p (.tup [x, y]) /\ z = .ref p /\ (∀ xs, SqT K H a xs -> xs[i]? = some x) /\ ∀ ys, SqT K H b ys -> ys[i]? = some y,
 fun i H => ∃ xs ys, SqT K H a xs /\ SqT K H b ys /\ (xs.length <= i \/ ys.length <= i)⟩
theorem nh {P : Program} {w : World} {K : PySem.W.Frag} {elts : List Expr} {x1} {tp : Pos} (a b z TI TO i1 i2 : Addr) (D1 : TI ≠ z /\ TO ≠ z /\ i1 ≠ z /\ i2 ≠ z /\ TI ≠ TO /\ TI ≠ i1 /\ TI ≠ i2 /\ TO ≠ i1 /\ TO ≠ i2 /\ i1 ≠ i2) (D2 : a ≠ TO /\ b ≠ TO) :
  ja P w K (.Tuple elts x1 tp) (jE K a b) [z, TI, TO, i1, i2] z (fun i h => IsZip h z TI TO .none /\ IsPair h TI (.ref i1) (.ref i2) /\ (∃ u v, IsPair h TO u v) /\ h.IsTupleIter i1 a i /\ h.IsTupleIter i2 b i) where
 mem := by simp
 obj := fun i h st c hc => by
  obtain ⟨hz, hTI, ⟨u, v, hTO⟩, ⟨o1, e1, c1, d1⟩, ⟨o2, e2, c2, d2⟩⟩ := st
  simp only [List.mem_cons, List.not_mem_nil, or_false] at hc
  rcases hc with rfl | rfl | rfl | rfl | rfl
  ·exact ⟨_, hz, fun v z => by
    have z' : Data.fields _ = Data.cell v := z
    cases z'⟩
  ·exact ⟨_, hTI, fun v z => by
    have z' : Data.seq _ _ = Data.cell v := z
    cases z'⟩
  ·exact ⟨_, hTO, fun v z => by
    have z' : Data.seq _ _ = Data.cell v := z
    cases z'⟩
  ·exact ⟨o1, e1, fun v z => by rw [d1] at z; cases z⟩
  ·exact ⟨o2, e2, fun v z => by rw [d2] at z; cases z⟩
 keep := fun i h h' st k => by
  obtain ⟨hz, hTI, ⟨u, v, hTO⟩, h1, h2⟩ := st
  exact ⟨k z (by simp) _ hz, k TI (by simp) _ hTI, ⟨u, v, k TO (by simp) _ hTO⟩, h1.at fun o e => k i1 (by simp) o e, h2.at fun o e => k i2 (by simp) o e⟩
 item := by
  intro X hP hw hK hc i pins s σ H E I hf st hg
  subst hP hw hK
  obtain ⟨xs, ys, x, y, hq1, hq2, hx, hy⟩ := hg
  obtain ⟨its1, rv1, p1, _⟩ := I.tuple hq1
  obtain ⟨its2, rv2, p2, _⟩ := I.tuple hq2
  obtain ⟨u1, hu1, ru1⟩ := rv1.get hx
  obtain ⟨u2, hu2, ru2⟩ := rv2.get hy
  obtain ⟨hz, hTI, ⟨u, v, hTO⟩, h1, h2⟩ := st
  obtain ⟨d1, d2, d3, d4, d5, d6, d7, d8, d9, d10⟩ := D1
  have L1 : s.heap.IsTuple a its1.toArray := p1
  have L2 : s.heap.IsTuple b its2.toArray := p2
  have D : ZipApart z TI TO i1 i2 a b := by
   obtain ⟨o1, e1, c1, _⟩ := id L1
   obtain ⟨o2, e2, c2, _⟩ := id L2
   obtain ⟨o3, e3, c3, _⟩ := id h1
   obtain ⟨o4, e4, c4, _⟩ := id h2
   exact ⟨d1, d2, d3, d4, d5, d6, d7, d8, d9, d10, cY e1 hz (by rw [c1]; exact fun z => absurd (Value.type.inj z) (by decide)), D2.1, cY e1 e3 (by rw [c1, c3]; exact fun z => absurd (Value.type.inj z) (by decide)), cY e1 e4 (by rw [c1, c4]; exact fun z => absurd (Value.type.inj z) (by decide)),
    cY e2 hz (by rw [c2]; exact fun z => absurd (Value.type.inj z) (by decide)), D2.2, cY e2 e3 (by rw [c2, c3]; exact fun z => absurd (Value.type.inj z) (by decide)), cY e2 e4 (by rw [c2, c4]; exact fun z => absurd (Value.type.inj z) (by decide))⟩
  refine mo D hz hTI hTO h1 h2 L1 L2 (x := u1) (y := u2) (by simpa using hu1) (by simpa using hu2) fun h3 a1 a2 a3 a4 a5 hk => ?_
  refine ⟨_, rfl, wpAny_letOwnedTupleGo_zip a1 fun h4 hz4 hs4 => ?_⟩
  have hzl : z < s.heap.objs.size := Heap.lt_size hz
  have hn : H s.heap.objs.size = none := I.hok.fresh (Nat.le_refl _)
  have keep : ∀ c o, c ≠ z -> c ≠ TO -> c ≠ i1 -> c ≠ i2 -> s.heap.get? c = some o -> h4.get? c = some o := fun c o c1 c2 c3 c4 q => (hs4.2 c c1).trans (hk c o c1 c2 c3 c4 q)
  have tup : h4.get? s.heap.objs.size = some { cls := .type "tuple", data := .seq #[u1, u2] } := (hs4.2 _ (ngt hzl)).trans a5
  have fpn : ∀ c ∈ [z, TI, TO, i1, i2], H c = none := fun c hc => (hf c hc).1
  have nit : ∀ c v, H c = some v -> c ≠ z /\ c ≠ TO /\ c ≠ i1 /\ c ≠ i2 := fun c v q => ⟨(fun e => by rw [e, fpn z (by simp)] at q; cases q), (fun e => by rw [e, fpn TO (by simp)] at q; cases q), (fun e => by rw [e, fpn i1 (by simp)] at q; cases q), (fun e => by rw [e, fpn i2 (by simp)] at q; cases q)⟩
  have kch : ∀ c o, c ∉ [z, TO, i1, i2] -> s.heap.get? c = some o -> h4.get? c = some o := fun c o hc q => keep c o (fun e => hc (by simp [e])) (fun e => hc (by simp [e])) (fun e => hc (by simp [e])) (fun e => hc (by simp [e])) q
  have I2 : Inv X pins σ (upd H s.heap.objs.size (.tup [x, y])) { s with heap := h4, toks := s.toks } := by
   refine I.step (g' := s.gens) (d' := s.drawn) (ch := [z, TO, i1, i2]) (fun c hc => ?_) (fun c o _ _ hc' q _ => kch c o hc' q) (fun c o _ _ hc' q _ => ⟨o.slots, kch c o hc' q⟩) (fun c o _ q n => by rw [aE (nlt (Heap.lt_size q))]; exact n) (fun c o hc' q => ⟨o, kch c o hc' q⟩)
    (fun c xs q => by rw [aE (am q hn)]; exact q) (fun c o v q => by rw [aE (am q hn)]; exact q) (fun c ps q => ⟨#[], by rw [aE (am q hn), q]; simp⟩) (fun m hm => ?_) (fun c v q => ?_) I.bare
   ·have hc' : c ∈ [z, TI, TO, i1, i2] := by
     simp only [List.mem_cons, List.not_mem_nil, or_false] at hc ⊢
     rcases hc with e | e | e | e <;> simp [e]
    obtain ⟨f0, f1, f2, f3, f4, f5⟩ := hf c hc'
    exact ⟨f3, f1, f4, f5⟩
   ·obtain ⟨o, es, ep, ho, r⟩ := hm
    exact ⟨o, es, ep, keep _ o (Ne.symm (hf z (by simp)).2.1) (Ne.symm (hf TO (by simp)).2.1) (Ne.symm (hf i1 (by simp)).2.1) (Ne.symm (hf i2 (by simp)).2.1) ho, r⟩
   ·by_cases hb : c = s.heap.objs.size
    ·subst hb
     rw [ad] at q
     cases q
     exact ⟨(show 2 <= sizeLine by rw [sizeLine_eq]; decide), [u1, u2], .cons ru1 (.cons ru2 .nil), ⟨_, tup, rfl, 0, rfl⟩, _, tup, rfl⟩
    ·rw [aE hb] at q
     refine (I.hok c v q).stay (fun c' w' hc' q' => ?_) (fun c' q' => by rw [aE (am q' hn)]; exact q') fun c' xs q' => by rw [aE (am q' hn)]; exact q'
     rcases hc' with e | e
     ·subst e; obtain ⟨n1, n2, n3, n4⟩ := nit c' v q; exact keep c' w' n1 n2 n3 n4 q'
     ·obtain ⟨n1, n2, n3, n4⟩ := nit c' _ e; exact keep c' w' n1 n2 n3 n4 q'
  refine ⟨.ref s.heap.objs.size, _, I2, rfl, ⟨_, x, y, hn, rfl, rfl, fun xs' h' => by rw [I.tuple_inj h' hq1]; exact hx, fun ys' h' => by rw [I.tuple_inj h' hq2]; exact hy⟩, ?_, fun c hc => ?_⟩
  ·exact ⟨hz4, hs4.extBut _ _ d1 (hk TI _ d1 d5 d6 d7 hTI), ⟨_, _, hs4.extBut _ _ d2 a2⟩, a3.at fun o e => hs4.extBut _ _ d3 e, a4.at fun o e => hs4.extBut _ _ d4 e⟩
  ·have hb' : c < s.heap.objs.size := by
    simp only [List.mem_cons, List.not_mem_nil, or_false] at hc
    obtain ⟨o3, e3, _⟩ := h1
    obtain ⟨o4, e4, _⟩ := h2
    rcases hc with e | e | e | e | e
    ·rw [e]; exact hzl
    ·rw [e]; exact Heap.lt_size hTI
    ·rw [e]; exact Heap.lt_size hTO
    ·rw [e]; exact Heap.lt_size e3
    ·rw [e]; exact Heap.lt_size e4
   rw [aE (nlt hb')]
   exact fpn c hc
 done := by
  intro X hP hw hK hc i pins s σ H E I hf st hg
  subst hP hw hK
  obtain ⟨xs, ys, hq1, hq2, hend⟩ := hg
  obtain ⟨its1, rv1, p1, _⟩ := I.tuple hq1
  obtain ⟨its2, rv2, p2, _⟩ := I.tuple hq2
  obtain ⟨hz, hTI, ⟨u, v, hTO⟩, h1, h2⟩ := st
  obtain ⟨d1, d2, d3, d4, d5, d6, d7, d8, d9, d10⟩ := D1
  have L1 : s.heap.IsTuple a its1.toArray := p1
  have L2 : s.heap.IsTuple b its2.toArray := p2
  have D : ZipApart z TI TO i1 i2 a b := by
   obtain ⟨o1, e1, c1, _⟩ := id L1
   obtain ⟨o2, e2, c2, _⟩ := id L2
   obtain ⟨o3, e3, c3, _⟩ := id h1
   obtain ⟨o4, e4, c4, _⟩ := id h2
   exact ⟨d1, d2, d3, d4, d5, d6, d7, d8, d9, d10, cY e1 hz (by rw [c1]; exact fun z => absurd (Value.type.inj z) (by decide)), D2.1, cY e1 e3 (by rw [c1, c3]; exact fun z => absurd (Value.type.inj z) (by decide)), cY e1 e4 (by rw [c1, c4]; exact fun z => absurd (Value.type.inj z) (by decide)),
    cY e2 hz (by rw [c2]; exact fun z => absurd (Value.type.inj z) (by decide)), D2.2, cY e2 e3 (by rw [c2, c3]; exact fun z => absurd (Value.type.inj z) (by decide)), cY e2 e4 (by rw [c2, c4]; exact fun z => absurd (Value.type.inj z) (by decide))⟩
  have l1 := rv1.length
  have l2 := rv2.length
  have fpn : ∀ c ∈ [z, TI, TO, i1, i2], H c = none := fun c hc => (hf c hc).1
  refine nU (I.ok.hd hc) D hz hTI hTO h1 h2 L1 L2 (hend.imp (fun h => by simp; omega) fun h => by simp; omega) fun h4 hk => ⟨rfl, ?_⟩
  have nit : ∀ c v, H c = some v -> c ≠ z /\ c ≠ TO /\ c ≠ i1 /\ c ≠ i2 := fun c v q => ⟨(fun e => by rw [e, fpn z (by simp)] at q; cases q), (fun e => by rw [e, fpn TO (by simp)] at q; cases q), (fun e => by rw [e, fpn i1 (by simp)] at q; cases q), (fun e => by rw [e, fpn i2 (by simp)] at q; cases q)⟩
  have kch : ∀ c o, c ∉ [z, TO, i1, i2] -> s.heap.get? c = some o -> h4.get? c = some o := fun c o hc q => hk c o (fun e => hc (by simp [e])) (fun e => hc (by simp [e])) (fun e => hc (by simp [e])) (fun e => hc (by simp [e])) q
  refine I.step (t' := s.toks) (g' := s.gens) (d' := s.drawn) (ch := [z, TO, i1, i2]) (fun c hc => ?_) (fun c o _ _ hc' q _ => kch c o hc' q) (fun c o _ _ hc' q _ => ⟨o.slots, kch c o hc' q⟩) (fun c o _ q n => n) (fun c o hc' q => ⟨o, kch c o hc' q⟩)
   (fun c xs q => q) (fun c o v q => q) (fun c ps q => ⟨#[], by rw [q]; simp⟩) (fun m hm => ?_) (fun c v q => ?_) I.bare
  ·have hc' : c ∈ [z, TI, TO, i1, i2] := by
    simp only [List.mem_cons, List.not_mem_nil, or_false] at hc ⊢
    rcases hc with e | e | e | e <;> simp [e]
   obtain ⟨f0, f1, f2, f3, f4, f5⟩ := hf c hc'
   exact ⟨f3, f1, f4, f5⟩
  ·obtain ⟨o, es, ep, ho, r⟩ := hm
   exact ⟨o, es, ep, hk _ o (Ne.symm (hf z (by simp)).2.1) (Ne.symm (hf TO (by simp)).2.1) (Ne.symm (hf i1 (by simp)).2.1) (Ne.symm (hf i2 (by simp)).2.1) ho, r⟩
  ·refine (I.hok c v q).stay (fun c' w' hc' q' => ?_) (fun c' q' => q') fun c' xs q' => q'
   rcases hc' with e | e
   ·subst e; obtain ⟨n1, n2, n3, n4⟩ := nit c' v q; exact hk c' w' n1 n2 n3 n4 q'
   ·obtain ⟨n1, n2, n3, n4⟩ := nit c' _ e; exact hk c' w' n1 n2 n3 n4 q'
 self := fun A i s Q E st h => wpAny_pyIter_zip st.1 h
theorem sW {h : Heap} {a : Addr} {its : Array Value} (p : IsTup h a its) : a < h.objs.size := by
 obtain ⟨o, e, _⟩ := p
 exact Heap.lt_size e
section
variable {X : Cx}
def vT (K : PySem.W.Frag) (ta : TA) : TI := fun σ H R => ta σ H fun vs H1 => ∃ a b, vs = [.ref a, .ref b] /\ (∃ xs, SqT K H1 a xs) /\ (∃ ys, SqT K H1 b ys) /\ R (jE K a b) H1
theorem lT {a b : Expr} {ta : TA} {p pos : Pos} {elts : List Expr} {x1} {tp : Pos} (hg : Gl X "zip") (hm : X.mg "zip" = none) (ha : PA X [a, b] ta) (hs : starEach [a, b] X.env = (false, eval a X.env) :: starEach [b] X.env := by rfl) (hpl : (backTo pos (starEach [b] X.env)).any (·.1) = false := by rfl) :
  PI X (.Tuple elts x1 tp) (.Call (.Name "zip" p) [a, b] [] pos) (vT X.K ta) := by
 intro pins s σ H R I h
 refine Call_ (eC I hg hm (u := .type "zip") (by decide +kernel) (PyProof.Rows.callWith_type1 (thn (ha pos pins s σ H _ I h) fun us s1 ⟨vs, H1, I1, r1, q1⟩ => ?_) hs hpl))
 obtain ⟨l, m, e, ⟨xs, hq1⟩, ⟨ys, hq2⟩, q⟩ := q1
 subst e
 obtain ⟨u, w', rfl, ru, rw'⟩ := rD r1
 cases ru
 cases rw'
 obtain ⟨its1, rv1, p1, _⟩ := I1.tuple hq1
 obtain ⟨its2, rv2, p2, _⟩ := I1.tuple hq2
 refine nc p1 p2 fun h' hz hTI hTO hi1 hi2 kp => ?_
 have I2 : Inv X pins σ H1 { s1 with heap := h' } := I1.kept (t' := s1.toks) kp
 have add : ∀ (n i j : Nat), i ≠ j -> n + i ≠ n + j := fun n i j h z => h (Nat.add_left_cancel z)
 have T : ja X.prog X.w X.K (.Tuple elts x1 tp) (jE X.K l m) [s1.heap.objs.size + 4, s1.heap.objs.size + 2, s1.heap.objs.size + 3, s1.heap.objs.size, s1.heap.objs.size + 1] (s1.heap.objs.size + 4) _ :=
  nh l m (s1.heap.objs.size + 4) (s1.heap.objs.size + 2) (s1.heap.objs.size + 3) s1.heap.objs.size (s1.heap.objs.size + 1)
   ⟨add _ 2 4 (by decide), add _ 3 4 (by decide), add _ 0 4 (by decide), add _ 1 4 (by decide), add _ 2 3 (by decide), add _ 2 0 (by decide), add _ 2 1 (by decide), add _ 3 0 (by decide), add _ 3 1 (by decide), add _ 0 1 (by decide)⟩ ⟨Nat.ne_of_lt (Nat.lt_add_right 3 (sW p1)), Nat.ne_of_lt (Nat.lt_add_right 3 (sW p2))⟩
 refine T.self X.A 0 { s1 with heap := h' } _ _ ⟨hz, hTI, ⟨_, _, hTO⟩, hi1, hi2⟩ ?_
 refine ⟨s1.heap.objs.size + 4, _, _, _, H1, rfl, I2, T, ⟨hz, hTI, ⟨_, _, hTO⟩, hi1, hi2⟩, fun b hb => ?_, q⟩
 have hb' : s1.heap.objs.size <= b := by
  simp only [List.mem_cons, List.not_mem_nil, or_false] at hb
  rcases hb with e | e | e | e | e
  ·rw [e]; exact Nat.le_add_right _ _
  ·rw [e]; exact Nat.le_add_right _ _
  ·rw [e]; exact Nat.le_add_right _ _
  ·rw [e]; exact Nat.le_refl _
  ·rw [e]; exact Nat.le_add_right _ _
 obtain ⟨f0, f1⟩ := I1.fpOk hb' (I1.hok.fresh hb')
 exact ⟨f0, f1⟩
theorem qM {K : PySem.W.Frag} {a b : Addr} {xs ys : List V} {g : TG} {tb : TS} {D : dc} {σ : St} {H : Hp} (Pv : Nat -> St -> Hp -> Prop) (h0 : Pv 0 σ H) (hl : ∀ i σ H, Pv i σ H -> SqT K H a xs /\ SqT K H b ys)
  (hs : ∀ i x y σ H p, xs[i]? = some x -> ys[i]? = some y -> Pv i σ H -> H p = none -> g (.ref p) σ (upd H p (.tup [x, y])) fun σ2 H2 => tb { D with nx := Pv (i + 1), ct := Pv (i + 1), bk := D.nx } σ2 H2) (hd : ∀ σ H, Pv (min xs.length ys.length) σ H -> D.nx σ H) :
  ∃ W : Nat -> Nat -> St -> Hp -> Prop, (∃ m, W 0 m σ H) /\ ∀ i m σ H, W i m σ H ->
   ((jE K a b).stop i H /\ D.nx σ H) \/ ((jE K a b).go i H /\ ∃ N : St -> Hp -> Prop, (∀ σ' H', N σ' H' -> ∃ m', m' < m /\ W (i + 1) m' σ' H') /\ ∀ x H', (jE K a b).yld i H x H' -> g x σ H' fun σ2 H2 => tb { D with nx := N, ct := N, bk := D.nx } σ2 H2) := by
 refine ⟨fun i m σ H => m = min xs.length ys.length - i /\ i <= min xs.length ys.length /\ Pv i σ H, ⟨min xs.length ys.length, by simp, Nat.zero_le _, h0⟩, ?_⟩
 rintro i m σ H ⟨rfl, hi, p⟩
 obtain ⟨q1, q2⟩ := hl i σ H p
 by_cases hlt : i < min xs.length ys.length
 ·have h1 : i < xs.length := by omega
  have h2 : i < ys.length := by omega
  refine .inr ⟨⟨xs, ys, xs[i], ys[i], q1, q2, by simp [h1], by simp [h2]⟩, Pv (i + 1), fun σ' H' p' => ⟨min xs.length ys.length - (i + 1), by omega, rfl, hlt, p'⟩, fun z H' y => ?_⟩
  obtain ⟨c, x, y, hb, e1, e2, hx, hy⟩ := y
  subst e1 e2
  exact hs i x y σ H c (hx xs q1) (hy ys q2) p hb
 ·have e : i = min xs.length ys.length := by omega
  subst e
  exact .inl ⟨⟨xs, ys, q1, q2, by omega⟩, hd σ H p⟩
end
theorem mV (l : Addr) (items : Array Value) (n : Nat) (b : Addr) (items2 : Array Value) (n2 : Nat) (dct : Option Addr) (slt : Array (Option Value)) (hs0 : ¬(!items.isEmpty && Builtin.List.listTooLong (items.size + items2.size)) = true) (hs1 : items.size <= sizeLine) (hs2 : items.size + items2.size <= sizeLine + 1) :
  Meets (Builtin.«list.extend» ⟨[.ref l, .ref b], []⟩) (fun _ R s => s.heap.get? l = some { cls := .type "list", data := .seq items n } /\ s.heap.get? b = some { cls := .type "tuple", dict := dct, data := .seq items2 n2, slots := slt } /\ R (.ok (.ret Value.none)) { s with heap := s.heap.update l (Obj.mapSeq fun x => x ++ items2), toks := s.toks }) :=
 .of_wp fun prog w A R s h => by
  obtain ⟨hp, g, d, tk, os⟩ := s
  obtain ⟨hl, hb, h⟩ := h
  have f1 := AutoSeq1.idx_int
  have f2 := AutoSeq1.sub_tuple_tuple
  have f3 := AutoSeq1.sub_list_list
  have f4 := AutoSeq1.sub_tuple_list
  have f5 := AutoSeq1.sub_list_tuple
  have hz' : (items ++ items2).size <= sizeLine + 1 := by rw [Array.size_append]; exact hs2
  wp_walk using (wpAny_updateSeq hl rfl (hz := hs1) (_hz' := hz')), AutoSeq1.wpAny_loadPart' hl, AutoSeq1.wpAny_loadPart' hb
  exact ⟨_, rfl, h⟩
section
variable {X : Cx}
def xO (K : PySem.W.Frag) : V -> List V -> Hp -> VK -> Prop := fun x vs H Q => ∃ l b xs zs, x = .ref l /\ vs = [.ref b] /\ H l = some (.lst xs) /\ SqT K H b zs /\ xs.length + zs.length <= sizeLine /\ Q .non (upd H l (.lst (xs ++ zs)))
theorem va : MtM X "list.extend" (xO X.K) := by
 intro pins s σ H x vs v us Q I rx rv h
 obtain ⟨l, b, xs, zs, rfl, rfl, hH, hB, hz, q⟩ := h
 cases rx
 obtain ⟨u, rfl, ru⟩ := rv.one
 cases ru
 obtain ⟨z, its, n, r, hl, e⟩ := I.lstM hH
 obtain ⟨its2, r2, ⟨⟨cls, dd, data, sl⟩, e2, hc, n2, hd⟩, _⟩ := I.tuple hB
 simp only at hc hd
 subst hc hd
 have hl2 := r2.length
 have hsz : its.toArray.size + its2.toArray.size <= sizeLine := by rw [List.size_toArray, List.size_toArray]; omega
 have hlong : ¬ (!its.toArray.isEmpty && Builtin.List.listTooLong (its.toArray.size + its2.toArray.size)) = true := by
  rw [iC hsz, Bool.and_false]
  exact Bool.false_ne_true
 refine call_meets F.slot_list_extend ⟨_, e, rfl⟩ F.entry_list_extend (F.args_list_extend_2 _ _)
  (mV l its.toArray n b its2.toArray n2 dd sl hlong (by rw [List.size_toArray]; omega) (by omega)) ⟨e, e2, ?_⟩
 refine ⟨.non, _, I.lset (its' := its ++ its2) hH e (by simp) (r.append r2) ?_, rfl, q⟩
 rw [List.length_append]
 omega
theorem nH (hu : X.A.units < cLine) : OpR X (compareOp .Eq) (fun x y H Q => ∃ (l b : Addr) (xs : List V), x = .ref l /\ y = .ref b /\ SqL X.K H l xs /\ SqL X.K H b [] /\ Q (.bl xs.isEmpty) H) := by
 intro pins s σ H x y v u Q I rx ry h
 obtain ⟨l, b, xs, rfl, rfl, hl, hb, q⟩ := h
 cases rx
 cases ry
 obtain ⟨its, r1, p1, _⟩ := I.list hl
 obtain ⟨its2, r2, p2, _⟩ := I.list hb
 have l1 := r1.length
 have l2 := r2.length
 cases xs with
 | nil =>
  refine SeqAt.RcAt.lists (e := fun _ => true) p1.isList p2.isList (by simp; omega) hu (fun j h1 h2 => ?_) X.prog X.w X.xe _ ?_
  ·have : j < its.length := by simpa using h1
   simp at l1; omega
  ·have e : ((List.range its.toArray.size).all fun _ => true) = true := by simp
   rw [e]
   exact ⟨.bl true, H, I, rfl, q⟩
 | cons x xs =>
  refine SeqAt.RcAt.lists_lengths p1.isList p2.isList ?_ hu X.prog X.w X.xe _ ⟨.bl false, H, I, rfl, q⟩
  rw [List.length_cons] at l1
  rw [List.length_nil] at l2
  rw [List.size_toArray, List.size_toArray, bne_iff_ne]
  omega
def wW : R2 := fun x y H Q => ∃ (n : Nat) (ds : List Dv), (∀ d ∈ ds, Pl n d) /\ n <= 140 /\ Rep H (.lst ds) x /\ Rep H (.lst ds) y /\ Q (.bl false) H
theorem ig (hu : X.A.units + 150 < cLine) : OpR X (compareOp .NotEq) wW := by
 intro pins s σ H x y v u Q I rx ry h
 obtain ⟨n, ds, hd, hn, r1, r2, q⟩ := h
 simp only [Rep] at r1 r2
 obtain ⟨l, vs, rfl, h1, rs1⟩ := r1
 obtain ⟨b', ws, rfl, h2, rs2⟩ := r2
 cases rx
 cases ry
 obtain ⟨its, rv1, p1, _⟩ := I.list (SqL.of h1)
 obtain ⟨its2, rv2, p2, _⟩ := I.list (SqL.of h2)
 have hu' : X.A.in1.units + n < cLine := by show X.A.units + 1 + n < cLine; omega
 obtain ⟨z1, z2, w⟩ := fC I (A := X.A.in1) (n := n) (fun d hd1 e he v w a b r1 r2 q1 q2 => kb I (hd d hd1) (hd e he) hu' r1 r2 q1 q2) rs1 rs2 rv1 rv2
 refine SeqAt.RcNeAt.lists (e := fun j => dy (ds[j]? = ds[j]?)) p1.isList p2.isList (by omega) (by omega) w X.prog X.w X.xe _ ?_
 have e : (!((List.range its.toArray.size).all fun j => dy (ds[j]? = ds[j]?))) = false := by
  rw [Bool.not_eq_false', List.all_eq_true]
  exact fun j _ => cA.mpr rfl
 rw [e]
 exact ⟨.bl false, H, I, rfl, q⟩
end
section
variable {prog : Program} {w : World} {A : Around} {E : Value -> Shared -> Prop} {s : Shared}
end
section
variable {X : Cx}
end
section
variable {X : Cx}
def wV (K : PySem.W.Frag) (te : TE) (ts : TO) : TE := fun σ H Q => te σ H fun x H1 => ts σ H1 fun l H2 => ∃ a xs, x = .ref a /\ l = some (-1) /\ SqL K H2 a xs /\ ∀ p, H2 p = none -> Q (.ref p) (upd H2 p (.lst xs.reverse))
theorem qG (its : Array Value) : slicePick its none none (some (-1)) = its.toList.reverse.toArray := by
 have b1 : (sliceBounds none none (some (-1)) its.size).1 = (its.size : Int) - 1 := rfl
 have b2 : (sliceBounds none none (some (-1)) its.size).2.1 = -1 := rfl
 have b3 : (sliceBounds none none (some (-1)) its.size).2.2 = -1 := rfl
 unfold slicePick
 rw [b1, b2, b3]
 congr 1
 have c : sliceRange ((its.size : Int) - 1) (-1) (-1) = (List.range its.size).map fun (k : Nat) => ((its.size : Int) - 1 + -1 * (k : Int)).toNat := by
  unfold sliceRange
  simp only [show ¬ ((-1 : Int) > 0) by decide, if_false]
  congr 2
  by_cases h : (its.size : Int) - 1 > -1
  ·rw [if_pos h]
   have : (-(-1) : Int) = 1 := rfl
   rw [this, Int.ediv_one]
   omega
  ·rw [if_neg h]
   have : (0 : Int).toNat = 0 := rfl
   omega
 rw [c, List.filterMap_map, <- sK]
 congr 1
 funext k
 show its[((its.size : Int) - 1 + -1 * (k : Int)).toNat]? = its[((its.size : Int) - 1 + (k : Int) * (-1)).toNat]?
 rw [Int.mul_comm]
theorem uE {e st : Expr} {te : TE} {ts : TO} {p2 pos : Pos} (he : PE X e te) (hs : PO X (some st) ts) : PE X (.Subscript e (.Slice none none (some st) p2) pos) (wV X.K te ts) := by
 intro pins s σ H Q I h
 refine Subscript_ (thn (he pins s σ H _ I h) fun v s1 ⟨x, H1, I1, r1, q1⟩ => wpAny_Slice ?_)
 rw [evalPart_none]
 refine wpAny_pure (wpAny_pure (thn (hs pins s1 σ H1 _ I1 q1) fun vu s3 ⟨u, H3, I3, pu, q3⟩ => ?_))
 obtain ⟨a, xs, rfl, rfl, hx, q⟩ := q3
 cases r1
 cases pu with
 | int j uj =>
  have I4 : Inv X pins σ H3 { s3 with heap := s3.heap.push { cls := .type "slice", data := .fields #[.none, .none, .int (-1) uj] } } := I3.kept (t' := s3.toks) fun b ob q => Heap.get?_push_of_some _ q
  have hsl : (s3.heap.push { cls := .type "slice", data := .fields #[.none, .none, .int (-1) uj] }).IsSliceOf s3.heap.objs.size .none .none (.int (-1) uj) := Heap.IsSliceOf.new ..
  obtain ⟨its, r, ht, hz⟩ := I4.list hx
  have hlen : its.toArray.size = xs.length := by rw [List.size_toArray]; exact r.length.symm
  show wpAny (model X.prog X.w) X.A (subscriptTail e (.Slice none none (some st) p2) (.ref a) (.ref s3.heap.objs.size)) (EP X pins σ Q) X.xe { s3 with heap := s3.heap.push { cls := .type "slice", data := .fields #[.none, .none, .int (-1) uj] } }
  refine tail_any (ops := [.ref a, .ref s3.heap.objs.size]) ht.isList.typeIs slot_list_getitem.lookup ?_ (by with_unfolding_all rfl)
  refine wpAny_getItem_list_slice ht.isList hsl .none .none (.int _ _) (by simp) ?_ (by rw [hlen]; exact hz)
  rw [qG]
  refine ⟨.ref _, _, I4.laid (t' := s3.toks) (o := .lst xs.reverse) (fun b ob q => Heap.get?_push_of_some _ q) (Nat.le_refl _) ?_, rfl, q _ (I4.hok.fresh (Nat.le_refl _))⟩
  have e : its.toArray.toList.reverse.toArray = its.reverse.toArray := by simp
  rw [e]
  exact ⟨by rw [List.length_reverse]; exact hz, its.reverse, 0, sf r, Heap.get?_push_size _ rfl⟩
end
theorem cF : fillsNumberSlot (.type "tuple") "mul" = pure false :=
 PySem.fillsNumberSlot_seq (id := "tuple.__mul__") (r := some (.builtin "tuple.__rmul__")) PySem.F.slot_tuple_mul.lookup (by decide +kernel) PySem.F.slot_tuple_rmul.lookup (by decide +kernel)
theorem eB : seqRepeat? (.type "tuple") = pure (some (.builtin "tuple.__mul__")) := by
 unfold seqRepeat?
 rw [PySem.seqSlot_of (T := "tuple") (name := "__mul__") (id := "tuple.__mul__") PySem.F.slot_tuple_mul.lookup (by decide +kernel), PySem.seqSlot_of (T := "tuple") (name := "__rmul__") (id := "tuple.__rmul__") PySem.F.slot_tuple_rmul.lookup (by decide +kernel)]
 rfl
theorem eE (a : Int) (t : Tok) (l : Addr) (items : Array Value) (n : Nat) (dct : Option Addr) (slt : Array (Option Value)) :
  Meets (Builtin.«int.__rmul__» ⟨[.int a t, .ref l], []⟩) (fun _ R s => s.heap.get? l = some { cls := .type "tuple", dict := dct, data := .seq items n, slots := slt } /\ R (.ok (.ret Value.notImplemented)) s) :=
 .of_wp fun prog w A R s h => by obtain ⟨hp, g, d, tk, os⟩ := s; obtain ⟨hl, h⟩ := h; wp_walk; exact ⟨_, rfl, h⟩
theorem sV (l : Addr) (items : Array Value) (n : Nat) (dct : Option Addr) (slt : Array (Option Value)) (k : Int) (t : Tok) (hc0 : ¬(decide (k < -2 ^ 63) || decide (k >= 2 ^ 63)) = true) (hc1 : ¬(items.isEmpty || k == 1) = true) (hc2 : ¬(decide (k <= 0) || items.isEmpty) = true) (hc3 : ¬((items.size : Int) * k > (2 ^ 63 - 1) / 8)) (hc4 : ¬Builtin.Tuple.tupleTooMany ((items.size : Int) * k) = true)
  (hz : ((List.replicate k.toNat items).foldl (· ++ ·) #[]).size <= sizeLine) :
  Meets (Builtin.«tuple.__mul__» ⟨[.ref l, .int k t], []⟩) (fun _ R s => s.heap.get? l = some { cls := .type "tuple", dict := dct, data := .seq items n, slots := slt } /\ R (.ok (.ret (.ref s.heap.objs.size))) { s with heap := s.heap.push { cls := .type "tuple", data := .seq ((List.replicate k.toNat items).foldl (· ++ ·) #[]) } }) :=
 .of_wp fun prog w A R s h => by
  obtain ⟨hp, g, d, tk, os⟩ := s
  obtain ⟨hl, h⟩ := h
  have f1 := AutoSeq1.idx_int
  have f2 := AutoSeq1.sub_tuple_tuple
  wp_walk using AutoSeq1.wpAny_loadPart' hl
  rw [if_neg hc0]
  wp_walk using AutoSeq1.wpAny_loadPart' hl
  rw [if_neg hc3]
  show wpAny _ _ (if Builtin.Tuple.tupleTooMany ((items.size : Int) * k) = true then _ else _) _ _ _
  rw [if_neg hc4]
  show wpAny _ _ (Builtin.Tuple.tupleExact (List.foldl (fun x1 x2 => x1 ++ x2) #[] (List.replicate k.toNat items)) >>= _) _ _ _
  refine wpAny_bind (m := Builtin.Tuple.tupleExact _) (wpAny_newObj_type (wpAny_pure ⟨_, rfl, h⟩) hz)
section
variable {X : Cx}
def xQ (K : PySem.W.Frag) : R2 := fun x y H Q => ∃ l k xs, x = .ref l /\ y = .int k /\ SqT K H l xs /\ xs ≠ [] /\ 2 <= k /\ k <= 1000 /\ xs.length * k.toNat <= 1000 /\ ∀ p, H p = none -> Q (.ref p) (upd H p (.tup (List.replicate k.toNat xs).flatten))
theorem uO : OpR X (binaryOp .Mult) (xQ X.K) := by
 intro pins s σ H x y v u Q I rx ry h
 obtain ⟨l, k, xs, rfl, rfl, hx, ne, k2, k3, hz, q⟩ := h
 cases rx
 obtain ⟨t, rfl⟩ := ry
 obtain ⟨its, r, ⟨⟨cls, dd, data, sl⟩, e, hc, n, hd⟩, z⟩ := I.tuple hx
 simp only at hc hd
 subst hc hd
 have hl := r.length
 have hlen : its.length * k.toNat <= 1000 := by rw [<- hl]; exact hz
 have hne : its ≠ [] := fun e => ne (List.length_eq_zero_iff.mp (by rw [hl, e]; rfl))
 have hnew : List.foldl (fun x1 x2 => x1 ++ x2) #[] (List.replicate k.toNat its.toArray) = (List.replicate k.toNat its).flatten.toArray := by
  have := gt its k.toNat []
  rw [List.nil_append] at this
  exact this
 have hmul : ((its.toArray.size : Int)) * k <= 1000 := by
  rw [List.size_toArray]
  have e1 : ((its.length * k.toNat : Nat) : Int) = (its.length : Int) * k := by rw [Int.natCast_mul]; congr 1; omega
  omega
 have hemp : its.toArray.isEmpty = false := by simpa using hne
 refine wpAny_binaryOp_repeat_ref (T := "tuple") (U := "int") (by decide) ⟨_, e, rfl⟩ (fun s' => typeIs_int s' k t) cF F.fills_int_mul F.slot_int_rmul eB F.slot_int_index.lookup
  (call_meets F.slot_int_rmul (typeIs_int s k t) F.entry_int_rmul (F.args_int_rmul_2 _ _) (eE k t l its.toArray n dd sl)
   ⟨e, rfl, ⟨_, e, rfl⟩, call_meets F.slot_tuple_mul ⟨_, e, rfl⟩ F.entry_tuple_mul (F.args_tuple_mul_2 _ _) (sV l its.toArray n dd sl k t ?_ ?_ ?_ ?_ ?_ ?_) ⟨e, ?_⟩⟩)
 ·simp only [Bool.or_eq_true, decide_eq_true_eq]; omega
 ·rw [hemp, Bool.false_or]; simp only [beq_iff_eq]; omega
 ·rw [hemp, Bool.or_false]; simp only [decide_eq_true_eq]; omega
 ·have : ((2 ^ 63 - 1) / 8 : Int) = 1152921504606846975 := by decide
  omega
 ·unfold Builtin.Tuple.tupleTooMany
  have : (sizeLine : Nat) = 16777216 := by rw [sizeLine_eq]
  simp only [decide_eq_true_eq]
  omega
 ·rw [hnew, List.size_toArray, L2.len_rep, Nat.mul_comm, sizeLine_eq]; omega
 rw [hnew]
 refine ⟨.ref _, _, I.laid (t' := s.toks) (o := .tup (List.replicate k.toNat xs).flatten) (fun b ob q => Heap.get?_push_of_some _ q) (Nat.le_refl _) ?_, rfl, q _ (I.hok.fresh (Nat.le_refl _))⟩
 exact ⟨by rw [L2.len_rep, Nat.mul_comm, sizeLine_eq]; omega, _, r.rep k.toNat, IsTup.new _ _, NoD.new _ rfl⟩
end
section
variable {prog : Program} {w : World} {A : Around} {E : Value -> Shared -> Prop}
end
section
variable {X : Cx} {pos : Pos}
end
end L2
namespace KB
open PySem L2
abbrev Pr := Str × Int
def xA (p q : Pr) : Prop := p.1.cps.toList < q.1.cps.toList
structure mr (ps : List Pr) : Prop where
 pw : ps.Pairwise xA
 ge : ∀ p ∈ ps, 1 <= p.2
theorem uU (a : List Nat) : ¬ a < a := fun h => List.lt_irrefl a h
theorem mE {ps : List Pr} (h : ps.Pairwise xA) : (ps.map (·.1)).Nodup := by
 rw [List.Nodup, List.pairwise_map]
 exact h.imp fun {a b} hab e => by
  have hab' : a.1.cps.toList < b.1.cps.toList := hab
  rw [e] at hab'
  exact uU _ hab'
def iQ (kvs : List Pr) (x : Str) (n : Int) : List Pr := if (kvs.any fun p => decide (p.1 = x)) = true then kvs.map (fun p => if p.1 = x then (p.1, n) else p) else kvs ++ [(x, n)]
def nmB (x : Str) : Bool := decide (1 <= x.cps.size) && decide (x.cps.size <= 8) && x.cps.toList.all fun c => decide (97 <= c) && decide (c <= 122)
def azB (c : Nat) : Bool := decide (97 <= c) && decide (c <= 122)
theorem Rep.tup_inv {H : Hp} {ds : List Dv} {v : V} (h : Rep H (.tup ds) v) : ∃ a vs, v = .ref a /\ H a = some (.tup vs) /\ aj H ds vs := by simpa only [Rep] using h
theorem aj.two {H : Hp} {d e : Dv} {vs : List V} (h : aj H [d, e] vs) : ∃ x y, vs = [x, y] /\ Rep H d x /\ Rep H e y := by
 simp only [aj] at h
 obtain ⟨x, r, rfl, h1, y, r2, rfl, h2, rfl⟩ := h
 exact ⟨x, y, rfl, h1, h2⟩
def Az (x : Str) (n : Nat) : Prop := x.cps.toList.length = n /\ ∀ c ∈ x.cps.toList, azB c = true
theorem Az.len {x : Str} {n : Nat} (h : Az x n) : x.length = n := by
 have e : x.cps.toList.length = x.length := Array.length_toList
 rw [<- e]; exact h.1
theorem gv {x y : Str} {n m : Nat} (h : Az x n) (g : Az y m) : Az (x ++ y) (n + m) := by
 have e := PySem.W.KT.app_list x y
 refine ⟨by rw [e, List.length_append, h.1, g.1], fun c hc => ?_⟩
 rw [e] at hc
 rcases List.mem_append.mp hc with hc | hc
 ·exact h.2 c hc
 ·exact g.2 c hc
theorem iV {c : Nat} (h : azB c = true) : Az ⟨#[c]⟩ 1 := ⟨rfl, fun d hd => by
 have e : d = c := by simpa using hd
 rw [e]; exact h⟩
theorem rB : Az Str.empty 0 := ⟨rfl, fun d hd => by cases hd⟩
theorem tT {x : Str} {n : Nat} {i : Int} (h : Az x n) (h0 : 0 <= i) (h1 : i <= n) : Az (Txt.slice x (some i) none) (n - i.toNat) := by
 have e := PyProof.Rows.slice_from_eq (x := x) (i := i) (b := (x.length : Int)) h0 (by rw [h.len]; exact h1) rfl
 rw [e]
 refine ⟨?_, fun c hc => ?_⟩
 ·show ((x.cps.toList.drop i.toNat).take ((x.length : Int) - i).toNat).toArray.toList.length = _
  simp only [List.length_take, List.length_drop, h.1, h.len]
  omega
 ·have hc' : c ∈ (x.cps.toList.drop i.toNat).take ((x.length : Int) - i).toNat := by simpa using hc
  exact h.2 c (List.mem_of_mem_drop (List.mem_of_mem_take hc'))
theorem xl {x : Str} {n : Nat} {i : Int} (h : Az x n) (h0 : 0 <= i) (h1 : i <= n) : Az (Txt.slice x none (some i)) i.toNat := by
 have e := eq_of_beq (PyProof.Rows.slice_closes_toL (x := x) (j := i) h0 (by rw [h.len]; exact h1))
 rw [e]
 refine ⟨?_, fun c hc => ?_⟩
 ·show ((x.cps.toList.drop (0 : Int).toNat).take (i - 0).toNat).toArray.toList.length = _
  simp only [List.length_take, List.length_drop, h.1]
  have : (0 : Int).toNat = 0 := rfl
  omega
 ·have hc' : c ∈ (x.cps.toList.drop (0 : Int).toNat).take (i - 0).toNat := by simpa using hc
  exact h.2 c (List.mem_of_mem_drop (List.mem_of_mem_take hc'))
theorem xr {x : Str} {n : Nat} (h : Az x n) (h1 : 1 <= n) (h8 : n <= 8) : nmB x = true := by
 unfold nmB
 have e : x.cps.size = n := by have := h.1; simpa using this
 rw [e, decide_eq_true h1, decide_eq_true h8, Bool.and_self, Bool.true_and]
 exact List.all_eq_true.mpr fun c hc => h.2 c hc
def dk (kvs : List (Str × Int)) : List (Key × V) := kvs.map fun p => (Sum.inr p.1, V.int p.2)
def bU (c : Int) (ps : List (Str × Int)) : Dv := .tup [.int c, .tup (ps.map fun p => .tup [.str p.1, .int p.2])]
def tkV (r : TK) : Str × Int := (r.2.1, match r.2.2 with | [.int n] => n | _ => 0)
theorem jJ {H : Hp} : ∀ {rs : List TK}, (∀ r ∈ rs, H r.1 = some (.tup [.str (tkV r).1, .int (tkV r).2])) -> aj H ((rs.map tkV).map fun p => Dv.tup [.str p.1, .int p.2]) (rs.map fun r => V.ref r.1)
 | [], _ => by simp [aj]
 | r :: rs, h => by
  simp only [List.map_cons, aj]
  refine ⟨_, _, rfl, ?_, jJ fun x hx => h x (List.mem_cons_of_mem _ hx)⟩
  simp only [Rep, aj]
  exact ⟨r.1, _, rfl, h r List.mem_cons_self, _, _, rfl, rfl, _, _, rfl, rfl, rfl⟩
theorem tP {k : Nat} {ix : List Nat} {i : Nat} {tt : TT} {te : TE} {σ : St} {x : V} {ys : List V} {H : Hp} {N : List V -> Hp -> Prop} (h : tt ((dO k ix σ).set i (some x)) H fun c H3 => if c = true then te ((dO k ix σ).set i (some x)) H3 fun y H4 => ys.length < sizeLine /\ N (ys ++ [y]) H4 else N ys H3) :
  dQ k ix (dU i) tt te σ x ys H N := h
theorem oN {a b : Str} : ((Sum.inr a : Key) = Sum.inr b) ↔ a = b := ⟨fun h => by injection h, fun h => by rw [h]⟩
theorem tm (kvs : List (Str × Int)) (x : Str) (n : Int) : dk (iQ kvs x n) = dZ (dk kvs) (Sum.inr x) (.int n) := by
 unfold iQ dZ dk
 have e : ((kvs.map fun p => ((Sum.inr p.1 : Key), V.int p.2)).any fun kv => decide (kv.1 = Sum.inr x)) = kvs.any fun p => decide (p.1 = x) := by
  rw [List.any_map]
  congr 1
  funext p
  simp [Function.comp]
 rw [e]
 split
 ·rw [List.map_map, List.map_map]
  refine List.map_congr_left fun p _ => ?_
  simp only [Function.comp]
  by_cases h : p.1 = x
  ·rw [if_pos h, if_pos (oN.mpr h)]
  ·rw [if_neg h, if_neg (fun z => h (oN.mp z))]
 ·rw [List.map_append]
  rfl
theorem pQ {kvs : List (Str × Int)} {x : Str} {n : Int} (nd : (kvs.map (·.1)).Nodup) : ((iQ kvs x n).map (·.1)).Nodup := by
 unfold iQ
 split
 ·have e : (kvs.map (fun p => if p.1 = x then (p.1, n) else p)).map (·.1) = kvs.map (·.1) := by
   rw [List.map_map]
   refine List.map_congr_left fun p _ => ?_
   simp only [Function.comp]
   split <;> rfl
  rw [e]; exact nd
 ·rename_i h
  rw [List.map_append, List.nodup_append]
  refine ⟨nd, by simp, fun a ha b hb => ?_⟩
  have hb' : b = x := by simpa using hb
  subst hb'
  intro e
  subst e
  obtain ⟨p, hp, e⟩ := List.mem_map.mp ha
  exact h (List.any_eq_true.mpr ⟨p, hp, decide_eq_true e⟩)
theorem sX (kvs : List (Str × Int)) (x : Str) (n : Int) : (iQ kvs x n).length <= kvs.length + 1 := by
 unfold iQ
 split
 ·rw [List.length_map]; omega
 ·rw [List.length_append]; simp
theorem sN {R : Str × Int -> Prop} {kvs : List (Str × Int)} {x : Str} {n : Int} (h : ∀ p ∈ kvs, R p) (hx : R (x, n)) : ∀ p ∈ iQ kvs x n, R p := by
 intro p hp
 unfold iQ at hp
 split at hp
 ·obtain ⟨q, hq, e⟩ := List.mem_map.mp hp
  by_cases z : q.1 = x
  ·rw [if_pos z] at e
   rw [<- e, z]; exact hx
  ·rw [if_neg z] at e
   rw [<- e]; exact h q hq
 ·rcases List.mem_append.mp hp with hp | hp
  ·exact h p hp
  ·rw [List.mem_singleton.mp hp]; exact hx
abbrev aV (ps : List Pr) : List Dv := ps.map fun p => .tup [.str p.1, .int p.2]
theorem pO {H : Hp} {ps : List Pr} {us : List V} (ru : aj H (aV ps) us) {i : Nat} {x : V} (hx : us[i]? = some x) : ∃ p b, ps[i]? = some p /\ x = .ref b /\ H b = some (.tup [.str p.1, .int p.2]) := by
 obtain ⟨d, hd, Rd⟩ := ru.get hx
 rw [List.getElem?_map] at hd
 cases e : ps[i]? with
 | none => rw [e] at hd; cases hd
 | some p =>
  rw [e] at hd
  obtain rfl : Dv.tup [.str p.1, .int p.2] = d := Option.some.inj hd
  obtain ⟨b, zs, rfl, hb, rz⟩ := Rep.tup_inv Rd
  obtain ⟨y, z, rfl, Ry, Rz⟩ := aj.two rz
  simp only [Rep] at Ry Rz
  subst Ry Rz
  exact ⟨p, b, rfl, rfl, hb⟩
theorem uF {H : Hp} {c : Int} {ps : List Pr} {v : V} (R : Rep H (bU c ps) v) : ∃ a b us, v = .ref a /\ H a = some (.tup [.int c, .ref b]) /\ H b = some (.tup us) /\ aj H (aV ps) us /\ us.length = ps.length := by
 obtain ⟨a, tv, rfl, ha, rt⟩ := Rep.tup_inv R
 obtain ⟨x, y, rfl, R0, R1⟩ := aj.two rt
 simp only [Rep] at R0
 subst R0
 obtain ⟨b, us, rfl, hb, ru⟩ := Rep.tup_inv R1
 have := ru.length
 rw [List.length_map] at this
 exact ⟨a, b, us, rfl, ha, hb, ru, this⟩
theorem len_rep {H : Hp} {c : Int} {ps : List Pr} {a b : Addr} {us : List V} (ha : H a = some (.tup [.int c, .ref b])) (hb : H b = some (.tup us)) (ru : aj H (aV ps) us) : Rep H (bU c ps) (.ref a) := by
 simp only [bU, Rep, aj]
 exact ⟨a, _, rfl, ha, _, _, rfl, rfl, _, _, rfl, ⟨b, us, rfl, hb, ru⟩, rfl⟩
theorem eqI {i j : Int} (h : decide (V.int i = V.int j) = true) : i = j := by
 have := of_decide_eq_true h
 injection this
theorem z2 : 2 <= sizeLine := by rw [sizeLine_eq]; decide
theorem z1 : 1 <= sizeLine := by rw [sizeLine_eq]; decide
theorem z3 : 3 <= sizeLine := by rw [sizeLine_eq]; decide
theorem sZ {kvs : List Pr} {x : Str} {n : Int} (h : x ∉ kvs.map (·.1)) : iQ kvs x n = kvs ++ [(x, n)] := by
 unfold iQ
 rw [if_neg]
 intro e
 rw [List.any_eq_true] at e
 obtain ⟨p, hp, e⟩ := e
 exact h (List.mem_map.mpr ⟨p, hp, of_decide_eq_true e⟩)
section
variable {K : PySem.W.Frag}
end
theorem tnx {D : dc} {σ : St} {H : Hp} (h : D.nx σ H) : vE D σ H := h
theorem oQ {ns : List Int} {k : Int} (h0 : 0 <= k) (h : k < (ns.length : Int)) : ∃ v : Int, atI (ns.map V.int) k = some (.int v) := by
 have hk : k.toNat < ns.length := by omega
 have q : atI (ns.map V.int) ((k.toNat : Nat) : Int) = some (.int ns[k.toNat]) := ak (by rw [List.getElem?_map, List.getElem?_eq_getElem hk] <;> rfl)
 have ek : k = ((k.toNat : Nat) : Int) := by omega
 rw [<- ek] at q
 exact ⟨_, q⟩
theorem aY {a : Int} (n : Int) (h : 0 < n) : 0 <= a % n /\ a % n < n := ⟨Int.emod_nonneg _ (by omega), Int.emod_lt_of_pos _ h⟩
def aS (a : Addr) (H H' : Hp) : Prop := ∀ g o, g ≠ a -> H g = some o -> H' g = some o
theorem aS.refl (a : Addr) (H : Hp) : aS a H H := fun _ _ _ e => e
theorem aS.trans {a : Addr} {H H1 H2 : Hp} (s : aS a H H1) (t : aS a H1 H2) : aS a H H2 := fun g o hg e => t g o hg (s g o hg e)
theorem ao.b {H H' : Hp} (a : Addr) (s : ao H H') : aS a H H' := fun g o _ e => s g o e
theorem aS.upd (H : Hp) (a : Addr) (o : HO) : aS a H (upd H a o) := fun g u hg e => by rw [aE hg]; exact e
def dD (H H' : Hp) : Prop := ∀ b zs, H b = some (.tup zs) -> H' b = some (.tup zs)
theorem ao.tups {H H' : Hp} (s : ao H H') : dD H H' := fun b zs e => s b _ e
theorem dD.trans {H H1 H2 : Hp} (s : dD H H1) (t : dD H1 H2) : dD H H2 := fun b zs e => t b zs (s b zs e)
theorem aS.tups {a : Addr} {H H' : Hp} {xs : List V} (s : aS a H H') (h : H a = some (.lst xs)) : dD H H' := fun b zs e => s b _ (fun z => by rw [z, h] at e; cases e) e
theorem aS.tupsD {a : Addr} {H H' : Hp} {m : List (Key × V)} (s : aS a H H') (h : H a = some (.dK m)) : dD H H' := fun b zs e => s b _ (fun z => by rw [z, h] at e; cases e) e
theorem ba {H H' : Hp} : ∀ {ds : List Dv} {vs : List V}, (∀ d ∈ ds, ∀ v, Rep H d v -> Rep H' d v) -> aj H ds vs -> aj H' ds vs
 | [], vs, _, h => by simpa only [aj] using h
 | d :: ds, vs, f, h => by
  simp only [aj] at h ⊢
  obtain ⟨v, r, rfl, h1, h2⟩ := h
  exact ⟨v, r, rfl, f d List.mem_cons_self v h1, ba (fun e he => f e (List.mem_cons_of_mem _ he)) h2⟩
theorem dF {H H' : Hp} (t : dD H H') {n : Nat} {d : Dv} (h : L2.Pl n d) : ∀ {v : V}, Rep H d v -> Rep H' d v := by
 induction h with
 | int => intro v r; simpa only [Rep] using r
 | str => intro v r; simpa only [Rep] using r
 | non => intro v r; simpa only [Rep] using r
 | tup _ ih =>
  intro v r
  simp only [Rep] at r ⊢
  obtain ⟨a, vs, rfl, ha, rs⟩ := r
  exact ⟨a, vs, rfl, t _ _ ha, ba (fun d hd v r => ih d hd r) rs⟩
theorem gB (c : Int) (ps : List Pr) : L2.Pl 3 (bU c ps) := .tup fun d hd => by
 rcases List.mem_cons.mp hd with rfl | hd
 ·exact .int
 ·rw [List.mem_singleton.mp hd]
  refine .tup fun e he => ?_
  obtain ⟨p, _, rfl⟩ := List.mem_map.mp he
  refine .tup fun g hg => ?_
  rcases List.mem_cons.mp hg with rfl | hg
  ·exact .str
  ·rw [List.mem_singleton.mp hg]; exact .int
theorem oP {c : TT} {tb : TS} {D : dc} {σ : St} {H : Hp} (Pv : Nat -> St -> Hp -> Prop) (m : Nat) (h0 : Pv m σ H)
  (hs : ∀ m σ H, Pv m σ H -> c σ H fun b H1 => if b = true then tb { D with nx := fun σ' H' => ∃ m', m' < m /\ Pv m' σ' H', ct := fun σ' H' => ∃ m', m' < m /\ Pv m' σ' H', bk := D.nx } σ H1 else D.nx σ H1)
  (mono : ∀ σ H Q Q', (∀ b H1, Q b H1 -> Q' b H1) -> c σ H Q -> c σ H Q') : oB c tb D σ H := by
 refine ⟨Pv, ⟨m, h0⟩, fun m σ H p => mono σ H _ _ (fun b H1 q => ?_) (hs m σ H p)⟩
 cases b with
 | true => exact ⟨_, fun σ' H' q' => q', q⟩
 | false => exact q
theorem fI {K : PySem.W.Frag} {i : Nat} : ∀ σ H (Q Q' : Bool -> Hp -> Prop), (∀ b H1, Q b H1 -> Q' b H1) -> (fun (σ : St) (H : Hp) (Q : Bool -> Hp -> Prop) => je i σ H fun x H' => ∃ k, uY K x H' k /\ Q k H') σ H Q -> (fun (σ : St) (H : Hp) (Q : Bool -> Hp -> Prop) => je i σ H fun x H' => ∃ k, uY K x H' k /\ Q k H') σ H Q' := by
 rintro σ H Q Q' h ⟨v, e, k, t, q⟩
 exact ⟨v, e, k, t, h _ _ q⟩
inductive Kd where
 | whole
 | place (c : Int) (ps : List Pr)
 | row (c : Int) (ps : List Pr) (k : Kd)
 | pair (k j : Kd)
def Kd.dv : Kd -> Dv
 | .whole => .tup [.str "whole"]
 | .place c ps => .tup [.str "place", bU c ps]
 | .row c ps k => .tup [.str "row", bU c ps, k.dv]
 | .pair k j => .tup [.str "pair", k.dv, j.dv]
def Kd.size : Kd -> Nat
 | .whole => 1
 | .place _ _ => 1
 | .row _ _ k => k.size + 1
 | .pair k j => k.size + j.size + 1
theorem Kd.size_pos : ∀ k : Kd, 1 <= k.size
 | .whole => Nat.le_refl _
 | .place _ _ => Nat.le_refl _
 | .row _ _ k => by show 1 <= k.size + 1; omega
 | .pair k j => by show 1 <= k.size + j.size + 1; omega
theorem Kd.pl : ∀ k : Kd, L2.Pl (k.size + 3) k.dv
 | .whole => .tup fun d hd => by rw [List.mem_singleton.mp hd]; exact .str
 | .place c ps => .tup fun d hd => by
  rcases List.mem_cons.mp hd with rfl | hd
  ·exact .str
  ·rw [List.mem_singleton.mp hd]; exact gB c ps
 | .row c ps k => .tup fun d hd => by
  rcases List.mem_cons.mp hd with rfl | hd
  ·exact .str
  rcases List.mem_cons.mp hd with rfl | hd
  ·exact (gB c ps).up (by show 3 <= k.size + 3; omega)
  ·rw [List.mem_singleton.mp hd]; exact k.pl
 | .pair k j => .tup fun d hd => by
  rcases List.mem_cons.mp hd with rfl | hd
  ·exact .str
  rcases List.mem_cons.mp hd with rfl | hd
  ·exact k.pl.up (by show k.size + 3 <= k.size + j.size + 3; omega)
  ·rw [List.mem_singleton.mp hd]; exact j.pl.up (by show j.size + 3 <= k.size + j.size + 3; omega)
def Kd.word : Kd -> Str
 | .whole => "whole"
 | .place _ _ => "place"
 | .row _ _ _ => "row"
 | .pair _ _ => "pair"
def Kd.kids : Kd -> List Kd
 | .row _ _ k => [k]
 | .pair k j => [k, j]
 | _ => []
def Kd.len? : Kd -> Option (Int × List Pr)
 | .place c ps => some (c, ps)
 | .row c ps _ => some (c, ps)
 | _ => none
def Kd.pts : Kd -> List Kd
 | .row c ps k => .row c ps k :: k.pts
 | .pair k j => .pair k j :: (k.pts ++ j.pts)
 | k => [k]
theorem Kd.pts_kids (k : Kd) : k.pts = k :: (k.kids.flatMap Kd.pts) := by
 cases k with
 | whole => rfl
 | place c ps => rfl
 | row c ps k => simp [Kd.pts, Kd.kids]
 | pair k j => simp [Kd.pts, Kd.kids]
theorem Kd.size_kids (k : Kd) : k.size = 1 + (k.kids.map Kd.size).sum := by
 cases k with
 | whole => rfl
 | place c ps => rfl
 | row c ps k => simp [Kd.size, Kd.kids]; omega
 | pair k j => simp [Kd.size, Kd.kids]; omega
theorem Kd.pts_len : ∀ k : Kd, k.pts.length = k.size
 | .whole => rfl
 | .place _ _ => rfl
 | .row c ps k => by show (k.pts.length) + 1 = k.size + 1; rw [k.pts_len]
 | .pair k j => by show (k.pts ++ j.pts).length + 1 = k.size + j.size + 1; rw [List.length_append, k.pts_len, j.pts_len]
def Kd.All (P : Int -> List Pr -> Prop) : Kd -> Prop
 | .whole => True
 | .place c ps => P c ps
 | .row c ps k => P c ps /\ k.All P
 | .pair k j => k.All P /\ j.All P
theorem Kd.tupS {H H' : Hp} (t : dD H H') {k : Kd} {v : V} (r : Rep H k.dv v) : Rep H' k.dv v := dF t k.pl r
theorem Kd.inv {H : Hp} {k : Kd} {v : V} (r : Rep H k.dv v) : ∃ a vs, v = .ref a /\ H a = some (.tup (.str k.word :: vs)) /\
  (match k with
   | .whole => vs = []
   | .place c ps => ∃ l, vs = [l] /\ Rep H (bU c ps) l
   | .row c ps j => ∃ l u, vs = [l, u] /\ Rep H (bU c ps) l /\ Rep H j.dv u
   | .pair i j => ∃ u w, vs = [u, w] /\ Rep H i.dv u /\ Rep H j.dv w) := by
 cases k with
 | whole =>
  simp only [Kd.dv, Rep, aj] at r
  obtain ⟨a, vs, rfl, ha, x, r1, rfl, rfl, rfl⟩ := r
  exact ⟨a, [], rfl, ha, rfl⟩
 | place c ps =>
  rw [Kd.dv, Rep] at r
  obtain ⟨a, vs, rfl, ha, rs⟩ := r
  simp only [aj] at rs
  obtain ⟨x, r1, rfl, hx, y, r2, rfl, hy, rfl⟩ := rs
  simp only [Rep] at hx
  subst hx
  exact ⟨a, _, rfl, ha, y, rfl, hy⟩
 | row c ps j =>
  rw [Kd.dv, Rep] at r
  obtain ⟨a, vs, rfl, ha, rs⟩ := r
  simp only [aj] at rs
  obtain ⟨x, r1, rfl, hx, y, r2, rfl, hy, z, r3, rfl, hz, rfl⟩ := rs
  simp only [Rep] at hx
  subst hx
  exact ⟨a, _, rfl, ha, y, z, rfl, hy, hz⟩
 | pair i j =>
  rw [Kd.dv, Rep] at r
  obtain ⟨a, vs, rfl, ha, rs⟩ := r
  simp only [aj] at rs
  obtain ⟨x, r1, rfl, hx, y, r2, rfl, hy, z, r3, rfl, hz, rfl⟩ := rs
  simp only [Rep] at hx
  subst hx
  exact ⟨a, _, rfl, ha, y, z, rfl, hy, hz⟩
theorem gl {H : Hp} {a : Addr} (h : H a = some (.tup [.str "whole"])) : Rep H Kd.whole.dv (.ref a) := by
 simp only [Kd.dv, Rep, aj]
 exact ⟨a, _, rfl, h, _, _, rfl, rfl, rfl⟩
theorem jF {H : Hp} {a : Addr} {l : V} {c : Int} {ps : List Pr} (h : H a = some (.tup [.str "place", l])) (r : Rep H (bU c ps) l) : Rep H (Kd.place c ps).dv (.ref a) := by
 rw [Kd.dv, Rep]
 refine ⟨a, _, rfl, h, ?_⟩
 simp only [aj]
 exact ⟨_, _, rfl, by simp only [Rep], _, _, rfl, r, rfl⟩
theorem kN {H : Hp} {a : Addr} {l u : V} {c : Int} {ps : List Pr} {k : Kd} (h : H a = some (.tup [.str "row", l, u])) (r : Rep H (bU c ps) l) (r2 : Rep H k.dv u) : Rep H (Kd.row c ps k).dv (.ref a) := by
 rw [Kd.dv, Rep]
 refine ⟨a, _, rfl, h, ?_⟩
 simp only [aj]
 exact ⟨_, _, rfl, by simp only [Rep], _, _, rfl, r, _, _, rfl, r2, rfl⟩
theorem md {H : Hp} {a : Addr} {l u : V} {j k : Kd} (h : H a = some (.tup [.str "pair", l, u])) (r : Rep H j.dv l) (r2 : Rep H k.dv u) : Rep H (Kd.pair j k).dv (.ref a) := by
 rw [Kd.dv, Rep]
 refine ⟨a, _, rfl, h, ?_⟩
 simp only [aj]
 exact ⟨_, _, rfl, by simp only [Rep], _, _, rfl, r, _, _, rfl, r2, rfl⟩
theorem lY {G H2 : Hp} {kvs : List Pr} {qs : List TK} (hq : ∀ r ∈ qs, H2 r.1 = some (.tup (.str r.2.1 :: r.2.2)) /\ G r.1 = none) (pq : (qs.map (·.2)).Perm ((kvs.map fun p => (p.1, V.int p.2)).map fun p => (p.1, [p.2]))) (pw : qs.Pairwise rg) (hall : ∀ p ∈ kvs, 1 <= p.2) :
  (qs.map tkV).Perm kvs /\ mr (qs.map tkV) /\ ∀ t, H2 t = none -> Rep (upd H2 t (.tup (qs.map fun r => V.ref r.1))) (.tup (aV (qs.map tkV))) (.ref t) := by
 have shape : ∀ r ∈ qs, ∃ p ∈ kvs, r.2 = (p.1, [V.int p.2]) := fun r hr' => by
  have := pq.mem_iff.mp (List.mem_map_of_mem (f := (·.2)) hr')
  rw [List.map_map] at this
  obtain ⟨p, hp, e⟩ := List.mem_map.mp this
  exact ⟨p, hp, e.symm⟩
 have tk : ∀ r ∈ qs, r.2.1 = (tkV r).1 /\ r.2.2 = [V.int (tkV r).2] := fun r hr' => by
  obtain ⟨p, _, e⟩ := shape r hr'
  unfold tkV
  rw [e]
  exact ⟨rfl, rfl⟩
 have perm : (qs.map tkV).Perm kvs := by
  have e1 : qs.map tkV = (qs.map (·.2)).map fun z => (z.1, match z.2 with | [.int n] => n | _ => 0) := by
   rw [List.map_map]; rfl
  have e2 : kvs = ((kvs.map fun p => (p.1, V.int p.2)).map fun p => (p.1, [p.2])).map fun z => (z.1, match z.2 with | [.int n] => n | _ => 0) := by
   rw [List.map_map, List.map_map]
   exact (List.map_id kvs).symm
  rw [e1]
  rw [e2]
  exact pq.map _
 refine ⟨perm, ⟨List.pairwise_map.mpr (pw.imp fun {x y} h => h), fun p hp => hall p (perm.mem_iff.mp hp)⟩, fun t ht => ?_⟩
 simp only [Rep]
 refine ⟨t, _, rfl, ad, jJ fun r hr' => ?_⟩
 have := (hq r hr').1
 rw [(tk r hr').1, (tk r hr').2] at this
 exact af ht _ _ _ this
theorem tq {H : Hp} {c : Int} {ps : List Pr} {p : Addr} {w : V} (hp : H p = some (.tup [.int c, w])) (R : Rep H (.tup (aV ps)) w) : Rep H (bU c ps) (.ref p) := by
 obtain ⟨b, us, rfl, hb, ru⟩ := Rep.tup_inv R
 exact len_rep hp hb ru
theorem dl {H : Hp} : ∀ {ds : List Dv} {d : Dv} {vs : List V}, aj H (ds ++ [d]) vs -> ∃ vs0 v, vs = vs0 ++ [v] /\ aj H ds vs0 /\ Rep H d v
 | [], d, vs, h => by
  simp only [List.nil_append, aj] at h
  obtain ⟨v, r, rfl, hv, rfl⟩ := h
  exact ⟨[], v, rfl, by simp only [aj], hv⟩
 | e :: ds, d, vs, h => by
  simp only [List.cons_append, aj] at h
  obtain ⟨v, r, rfl, hv, hr⟩ := h
  obtain ⟨vs0, u, rfl, h1, h2⟩ := dl hr
  exact ⟨v :: vs0, u, rfl, by simp only [aj]; exact ⟨v, vs0, rfl, hv, h1⟩, h2⟩
theorem bg {H : Hp} {d : Dv} {v : V} (h : Rep H d v) : aj H [d] [v] := by simp only [aj]; exact ⟨v, [], rfl, h, rfl⟩
theorem eO (vs : List V) (v : V) : (vs ++ [v])[(vs ++ [v]).length - 1]? = some v := by simp
theorem oT {t1 t2 : TT} {σ : St} {H : Hp} {Q : Bool -> Hp -> Prop} (C : Prop) (qT : C -> Q true H) (qF : Q false H) (f : (C -> Q true H) -> Q false H -> sQ t1 t2 σ H Q) : sQ t1 t2 σ H Q := f qT qF
theorem fQ {α : Type} : ∀ {l : List α}, l ≠ [] -> ∃ l0 x, l = l0 ++ [x] := fun {l} h => by
 rcases List.eq_nil_or_concat l with e | ⟨l0, x, e⟩
 ·exact absurd e h
 ·exact ⟨l0, x, by rw [e]; simp⟩
theorem gnm {i : Nat} {x : V} {σ : St} {H : Hp} {N : St -> Hp -> Prop} (h : N (σ.set i (some x)) H) : dU i x σ H N := h
theorem ifT {A B : Prop} (h : if true = true then A else B) : A := by rwa [if_pos rfl] at h
theorem ifF {A B : Prop} (h : if false = true then A else B) : B := by rwa [if_neg Bool.false_ne_true] at h
def qV : Option (Int × List Pr) -> Dv
 | some p => bU p.1 p.2
 | none => .non
theorem yh : ¬ (Str.ofString "whole" = Str.ofString "place") := by decide +kernel
theorem xB : ¬ (Str.ofString "whole" = Str.ofString "row") := by decide +kernel
theorem ye : ¬ (Str.ofString "whole" = Str.ofString "pair") := by decide +kernel
theorem xa : ¬ (Str.ofString "place" = Str.ofString "row") := by decide +kernel
theorem wN : ¬ (Str.ofString "place" = Str.ofString "pair") := by decide +kernel
theorem xK : ¬ (Str.ofString "row" = Str.ofString "pair") := by decide +kernel
theorem wne {x y : Str} (h : ¬ x = y) : ¬ V.str x = V.str y := fun e => h (V.str.inj e)
end KB
namespace L2
open PySem PySem.Spec PyProof.Rows PySem.W
section
variable {X : Cx}
end
end L2
namespace KB
open PySem L2
theorem dJ {H : Hp} {α : Type} {f : α -> Dv} {xs : List α} {us : List V} {i : Nat} {u : V} (R : aj H (xs.map f) us) (h : us[i]? = some u) : ∃ x, xs[i]? = some x /\ Rep H (f x) u := by
 obtain ⟨d, hd, Rd⟩ := R.get h
 rw [List.getElem?_map] at hd
 obtain ⟨x, hx, rfl⟩ := Option.map_eq_some_iff.mp hd
 exact ⟨x, hx, Rd⟩
theorem rm {H : Hp} {x : Option (Int × List Pr)} {u : V} (R : Rep H (qV x) u) : (x = none /\ u = .non) \/ ∃ p ds, x = some p /\ qV x = .tup ds /\ Rep H (.tup ds) u := by
 cases x with
 | none => exact .inl ⟨rfl, by simpa only [qV, Rep] using R⟩
 | some p => exact .inr ⟨p, _, rfl, rfl, R⟩
theorem vg {H : Hp} {k : Kd} {v : V} (R : Rep H k.dv v) : ∃ a vs, v = .ref a /\ H a = some (.tup (.str k.word :: vs)) := by
 obtain ⟨a, vs, e, ha, _⟩ := Kd.inv R
 exact ⟨a, vs, e, ha⟩
theorem wk {t1 t2 : TT} {σ : St} {H : Hp} {Q : Bool -> Hp -> Prop} (C : Prop) (qT : C -> ∀ H', ao H H' -> Q true H') (qF : ∀ H', ao H H' -> Q false H') (f : (C -> ∀ H', ao H H' -> Q true H') -> (∀ H', ao H H' -> Q false H') -> sQ t1 t2 σ H Q) : sQ t1 t2 σ H Q := f qT qF
theorem reps_take {H : Hp} : ∀ {ds : List Dv} {vs : List V} (n : Nat), aj H ds vs -> aj H (ds.take n) (vs.take n)
 | _, _, 0, _ => by simp only [List.take_zero, aj]
 | [], vs, n + 1, h => by simp only [aj] at h; subst h; simp only [List.take_nil, aj]
 | d :: ds, vs, n + 1, h => by
  simp only [aj] at h
  obtain ⟨v, r, rfl, h1, h2⟩ := h
  simp only [List.take_succ_cons, aj]
  exact ⟨v, _, rfl, h1, reps_take n h2⟩
theorem wq (xs : List V) (n : Nat) (h : n <= xs.length) : bc xs none (some (n : Int)) = xs.take n := by
 unfold bc
 rw [HT.sIx_none, HT.sIx_nat]
 simp [Nat.min_eq_left h]
theorem gA {t1 t2 : TS} {D : dc} {σ : St} {H : Hp} (M : St -> Hp -> Prop) (h2 : ∀ σ' H', M σ' H' -> t2 D σ' H') (f : (∀ σ' H', M σ' H' -> t2 D σ' H') -> uz t1 t2 D σ H) : uz t1 t2 D σ H := f h2
end KB
namespace L2
open PySem PySem.Spec PyProof.Rows PySem.W
section
variable {P : Program} {w : World} {A : Around} {E : Value -> Shared -> Prop} {s : Shared}
theorem iO {l : Addr} {items : Array Value} {ys : List Str} {Q : Value -> Shared -> Prop} (hh : A.handled = none) (hl : s.heap.IsTuple l items) (hi : ∀ (i : Nat) (v : Value), items[i]? = some v -> ∃ t, v = .str (ys.getD i default) t) (hb : items.size + 1 < scanBound)
  (h : ∀ (h' : Heap) (tk : Nat), dI P w h' s.heap.objs.size (uq (fun i => ys.getD i default) items.size) -> (∀ b o, b < s.heap.objs.size -> s.heap.get? b = some o -> h'.get? b = some o) -> Q (.ref s.heap.objs.size) { s with heap := h', toks := tk }) :
  wpAny (model P w) A (call (.type "set") [.ref l]) Q E s := by
 obtain ⟨c, tl, hmro⟩ := PySem.F.called_set.mro
 have hmade := PySem.F.called_set.made
 have hsub := PySem.F.called_set.sub
 refine wpAny_call (codeAny_of_tree ?_)
 show wpAny _ _ (callAny (.type "set") _) _ _ _
 refine wpAny_pure ⟨Code.quiet_builtin _ (by decide +kernel), codeAny_builtin PySem.F.entry_type_call ?_⟩
 rw [Around.under_plain (weight_type_call_type "set" [.ref l] []) rfl]
 have h1 := PySem.F.called_set.notType
 have h2 := PySem.F.called_set.canCreate
 have hct := PySem.F.typeCall_set_1 (.ref l)
 repeat (any_goals (first | assumption | wp_step))
 refine codeAny_mono (fj (.ref l) (E := E) (Q₁ := fun obj s₁ => obj = .ref s.heap.objs.size /\ s₁ = { s with heap := s.heap.push (bz w) }) ⟨rfl, rfl⟩) fun r s₁ hr => ?_
 cases r with
 | error e => exact hr
 | ok fl =>
  cases fl with
  | ret obj =>
   obtain ⟨rfl, rfl⟩ := hr
   have hS : (s.heap.push (bz w)).get? s.heap.objs.size = some (bz w) := Heap.get?_push_size _ rfl
   have hT : Shared.TypeIs { s with heap := s.heap.push (bz w) } (.ref s.heap.objs.size) "set" := ⟨_, hS, rfl⟩
   have hli := PySem.F.called_set.init.lookup
   have hbi := PySem.F.called_set.init.bind (.ref s.heap.objs.size)
   repeat (any_goals (first | assumption | wp_step))
   refine codeAny_mono (codeAny_call_builtin (R := wants (fun r s₂ => r = .none /\ ∃ h' tk, s₂ = { s with heap := h', toks := tk } /\ dI P w h' s.heap.objs.size (uq (fun i => ys.getD i default) items.size) /\ (∀ b o, b < s.heap.objs.size -> s.heap.get? b = some o -> h'.get? b = some o)) E)
    PySem.F.called_set.init.plain PySem.F.entry_set_init (check_set_init_1 hT ?_)) fun r₂ s₂ hr₂ => ?_
   ·obtain ⟨ol, hol, hcl, nl, hdl⟩ := hl
    obtain ⟨ocls, odict, odata, oslots⟩ := ol
    simp only at hcl hdl
    subst hcl; subst hdl
    have hol' : (s.heap.push (bz w)).get? l = some { cls := .type "tuple", dict := odict, data := .seq items nl, slots := oslots } := Heap.get?_push_of_some _ hol
    have hsls := PySem.F.sub_tuple_set
    have hslf := PySem.F.sub_tuple_frozenset
    have hne : (Value.type "tuple" == Value.type "dict") = false := by decide
    have hl1 : (s.heap.push (bz w)).IsTuple l items := ⟨_, hol', rfl, nl, rfl⟩
    unfold bz at hS hT hol' hl1 ⊢
    unfold Builtin.«set.__init__» noKeywords Builtin.Frozenset.updateFrom
    generalize hPI : pyIter = PI
    wp_walk
    subst hPI
    refine wpAny_pyIter_tuple hl1 ?_
    refine wpAny_bind (wpAny_runValue ?_)
    have hlS : l < s.heap.objs.size := Heap.lt_size hol
    have hh3 : A.in1.in1.in1.handled = none := by simp [hh]
    have hneI : l ≠ (s.heap.push (bz w)).objs.size := by
     rw [Heap.size_push]; exact Nat.ne_of_lt (Nat.lt_succ_of_lt hlS)
    have hSf : s.heap.objs.size ∉ [(s.heap.push (bz w)).objs.size, l] := by
     rw [Heap.size_push]; simp only [List.mem_cons, List.mem_singleton, List.not_mem_nil, or_false, not_or]
     exact ⟨Nat.ne_of_lt (Nat.lt_succ_self _), Nat.ne_of_gt hlS⟩
    refine mS ((Walks.tuple hh3 _ l hneI items).toS) s.heap.objs.size hSf (fun i => ys.getD i default) hi hb (items.size - 0) 0 _ (by omega) (Nat.zero_le _)
     ⟨⟨_, Heap.get?_push_size _ rfl, rfl, rfl⟩, (hl1.push _)⟩ ?hS0 ?hR
    case hS0 => exact (im s.heap).at' fun o e => Heap.get?_push_of_some _ e
    case hR =>
     intro s' hm hS'
     obtain ⟨h', g', d', tk', os'⟩ := s'
     have eg : g' = s.gens := hm.gens
     have ed : d' = s.drawn := hm.drawn
     have eo : os' = s.os := hm.os
     subst eg; subst ed; subst eo
     show wpAny _ _ _ _ _ _
     refine wpAny_pure ?_
     show wpAny _ _ (ret Value.none) _ _ _
     refine wpAny_pure ⟨rfl, h', tk', rfl, hS', fun b o hb e => ?_⟩
     have hb1 : b ≠ s.heap.objs.size := Nat.ne_of_lt hb
     have hb2 : b ≠ (s.heap.push (bz w)).objs.size := by
      rw [Heap.size_push]; exact Nat.ne_of_lt (Nat.lt_succ_of_lt hb)
     exact hm.heap b o (by simp only [List.mem_cons, List.mem_singleton, List.not_mem_nil, or_false, not_or]; exact ⟨hb1, hb2⟩) (Heap.get?_push_of_some _ (Heap.get?_push_of_some _ e))
   ·cases r₂ with
    | error e => exact hr₂
    | ok fl₂ =>
     cases fl₂ with
     | ret r =>
      obtain ⟨rfl, h', tk, rfl, hS', hk'⟩ := hr₂
      repeat (any_goals (first | assumption | wp_step))
      exact h _ _ hS' hk'
     | _ => exact hr₂.elim
  | _ => exact hr.elim
end
section
variable {X : Cx}
theorem hZ {st : Stmt} : PS X st (fun _ _ _ => False) := fun _ _ _ _ _ _ h => h.elim
theorem qh (hc : X.calm = true) : dP X (.type "set") (fun xs H Q => ∃ (l : Addr) (ys : List Str), xs = [.ref l] /\ (SqL X.K H l (ys.map V.str) \/ SqT X.K H l (ys.map V.str)) /\ ys.length <= 1000 /\
  ∀ (a : Addr) (zs : List Str), H a = none -> zs.Nodup -> (∀ x, x ∈ zs ↔ x ∈ ys) -> zs.length <= ys.length -> Q (.ref a) (upd H a (jg X.prog X.w a zs))) := by
 intro pins s σ H xs us Q I r h
 obtain ⟨l, ys, rfl, hq | hq, hy, q⟩ := h
 ·exact ql hc pins s σ H _ us Q I r ⟨l, ys, rfl, hq, hy, q⟩
 obtain ⟨u, rfl, ru⟩ := fm r
 cases ru
 obtain ⟨its, rv, p, hz⟩ := I.tuple hq
 have li : its.length = ys.length := by have := rv.length; rw [List.length_map] at this; exact this.symm
 have hb : its.toArray.size + 1 < scanBound := by rw [List.size_toArray, li]; unfold scanBound; omega
 refine iO (ys := ys) (I.ok.hd hc) p (fun i v hv => ?_) hb fun h' tk hS k => ?_
 ·have hv' : its[i]? = some v := by simpa using hv
  have hi : i < ys.length := by rw [<- li]; exact (List.getElem?_eq_some_iff.mp hv').1
  obtain ⟨t, e⟩ := oS rv i hi
  refine ⟨t, ?_⟩
  rw [<- e]
  simp [List.getD, hv']
 ·have sz : its.toArray.size = ys.length := by rw [List.size_toArray, li]
  rw [sz] at hS
  refine ⟨.ref s.heap.objs.size, _, I.laid (a := s.heap.objs.size) (o := jg X.prog X.w s.heap.objs.size (uq (fun i => ys.getD i default) ys.length)) (t' := tk) (fun b u e => k b u (Heap.lt_size e) e) (Nat.le_refl _) ?_, rfl, q _ _ I.fresh (fL _ _) (fun x => ?_) (kT _ _)⟩
  ·refine ⟨hS, ?_, fun h1 h2 x kk => dI.at' x kk⟩
   obtain ⟨o, _, _, _, ho, _⟩ := hS
   exact ⟨o, ho⟩
  ·rw [nO]
   constructor
   ·rintro ⟨j, hj, rfl⟩
    have e : ys.getD j default = ys[j] := by simp [List.getD, hj]
    rw [e]; exact List.getElem_mem hj
   ·intro hx
    obtain ⟨j, hj, rfl⟩ := List.getElem_of_mem hx
    exact ⟨j, hj, by simp [List.getD, hj]⟩
theorem qN : dP X (.builtin "len") (fun xs H Q => ∃ (a : Addr) (zs : List Str), xs = [.ref a] /\ H a = some (jg X.prog X.w a zs) /\ Q (.int (zs.length : Nat)) H) := by
 intro pins s σ H xs us Q I r h
 obtain ⟨a, zs, rfl, ha, q⟩ := h
 obtain ⟨u, rfl, ru⟩ := fm r
 cases ru
 obtain ⟨hS, _, _⟩ := (show bo X.prog X.w H s.heap a (jg X.prog X.w a zs) from I.hok a _ ha)
 obtain ⟨o, es, ep, t, ho, hex, hd, _, hb, hf, _, _, hp⟩ := hS
 have e : es.size = zs.length := by have := hp.length_eq; rw [List.length_map, Array.length_toList] at this; exact this
 refine call_len_set ho hex hd hf (by unfold scanBound at hb; omega) ⟨.int (zs.length : Nat), H, I.tok _, ⟨_, by rw [e]⟩, q⟩
theorem sj {x y : V} {u : Value} (h : aQ x u) (g : aQ y u) : x = y := by
 cases x <;> cases y <;> simp only [aQ] at h g <;> first | (obtain ⟨_, rfl⟩ := h; obtain ⟨_, g⟩ := g; cases g; rfl) | (obtain ⟨_, rfl⟩ := h; obtain ⟨_, g⟩ := g; cases g; done) | (obtain ⟨_, rfl⟩ := h; cases g; done) | (subst h; obtain ⟨_, g⟩ := g; cases g; done) | (subst h; cases g; rfl) | (subst h; cases g; done) | rfl
theorem mQ {H : Hp} : ∀ {ds : List Dv} {vs : List V} {us : List Value}, aj H ds vs -> aL vs us -> ∀ u ∈ us, ∃ d v, d ∈ ds /\ Rep H d v /\ aQ v u
 | _, _, _, R, .nil, u, hu => nomatch hu
 | [], _, _, R, .cons _ _, _, _ => by simp [aj] at R
 | d :: ds, _, _, R, .cons r t, u, hu => by
  simp only [aj] at R
  obtain ⟨v, vs, e, R1, R2⟩ := R
  cases e
  rcases List.mem_cons.mp hu with rfl | hu
  ·exact ⟨d, _, List.mem_cons_self, R1, r⟩
  ·obtain ⟨d', v', h1, h2, h3⟩ := mQ R2 t u hu
   exact ⟨d', v', List.mem_cons_of_mem _ h1, h2, h3⟩
theorem lD {H : Hp} : ∀ {ds : List Dv} {vs : List V} {us : List Value}, aj H ds vs -> aL vs us -> ∀ d ∈ ds, ∃ u v, u ∈ us /\ Rep H d v /\ aQ v u
 | [], _, _, _, _, d, hd => nomatch hd
 | _ :: _, _, _, R, .nil, _, _ => by simp [aj] at R
 | d :: ds, _, _, R, .cons r t, e, he => by
  simp only [aj] at R
  obtain ⟨v, vs, e1, R1, R2⟩ := R
  cases e1
  rcases List.mem_cons.mp he with rfl | he
  ·exact ⟨_, _, List.mem_cons_self, R1, r⟩
  ·obtain ⟨u', v', h1, h2, h3⟩ := lD R2 t e he
   exact ⟨u', v', List.mem_cons_of_mem _ h1, h2, h3⟩
def yo (K : PySem.W.Frag) : R2 := fun x y H Q => ∃ (p : Addr) (xs : List V) (n : Nat) (d : Dv) (ds : List Dv), y = .ref p /\ SqL K H p xs /\ aj H ds xs /\ (∀ e ∈ ds, Pl n e) /\ Pl n d /\ n <= 140 /\ Rep H d x /\ ∀ b : Bool, (b = true ↔ d ∈ ds) -> Q (.bl b) H
theorem vY (hu : X.A.units + 150 < cLine) : OpR X (compareOp .In) (yo X.K) := by
 intro pins s σ H x y v u Q I rx ry h
 obtain ⟨p, xs, n, d, ds, rfl, hq, R, hp, hd, hn, Rx, q⟩ := h
 cases ry
 obtain ⟨its, r, pl, hz⟩ := I.list hq
 have f : ∀ w ∈ its, ∃ e ∈ ds, SeqAt.EqAt X.A.in1 s w v (dy (∃ z, aQ z w /\ Rep H d z)) /\ (dy (∃ z, aQ z w /\ Rep H d z) = true ↔ e = d) := fun w hw => by
  obtain ⟨e, y, he, Re, ry⟩ := mQ R r w hw
  have E := kb I (hp e he) hd (A := X.A.in1) (by show X.A.units + 1 + n < cLine; omega) Re Rx ry rx
  have iff : (∃ z, aQ z w /\ Rep H d z) ↔ e = d := ⟨fun ⟨z, h1, h2⟩ => Rep.inj _ _ _ Re (sj h1 ry ▸ h2), fun z => ⟨y, ry, z ▸ Re⟩⟩
  have e2 : dy (∃ z, aQ z w /\ Rep H d z) = dy (e = d) := dM (by rw [cA]; exact iff)
  exact ⟨e, he, e2 ▸ E, by rw [cA]; exact iff⟩
 refine SeqAt.in_listAt (fun w => dy (∃ z, aQ z w /\ Rep H d z)) pl.isList (fun w hw => (f w (by simpa using hw)).choose_spec.2.1) ⟨.bl _, H, I, rfl, q _ ?_⟩
 rw [show its.toArray.any (fun w => dy (∃ z, aQ z w /\ Rep H d z)) = its.any (fun w => dy (∃ z, aQ z w /\ Rep H d z)) by simp, List.any_eq_true]
 constructor
 ·rintro ⟨w, hw, e⟩
  obtain ⟨e', he, _, i⟩ := f w hw
  rw [<- i.mp e]; exact he
 ·intro hm
  obtain ⟨w, y, hw, Ry, ry⟩ := lD R r d hm
  exact ⟨w, hw, cA.mpr ⟨y, ry, Ry⟩⟩
end
section
variable {X : Cx}
def wM (neg : Bool) : R2 := fun y x H Q => ∃ a o, x = .ref a /\ om H a y o /\ Q (.bl (if neg then !o.isSome else o.isSome)) H
theorem wp (hu : X.A.units + 1 < cLine) : OpR X (compareOp .In) (wM false) := by
 intro pins s σ H y x iv u Q I ry rx h
 obtain ⟨a, ov, rfl, g, q⟩ := h
 obtain rfl : u = Value.ref a := rx
 exact yi hu I g ry fun s3 I3 => ⟨.bl ov.isSome, H, I3, rfl, q⟩
theorem pW (hu : X.A.units + 1 < cLine) : OpR X (compareOp .NotIn) (wM true) := by
 intro pins s σ H y x iv u Q I ry rx h
 obtain ⟨a, ov, rfl, g, q⟩ := h
 obtain rfl : u = Value.ref a := rx
 exact uc hu I g ry fun s3 I3 => ⟨.bl (!ov.isSome), H, I3, rfl, q⟩
theorem wK (hu : X.A.units < cLine) : OpR X (compareOp .NotEq) (fun x y H Q => ∃ (l b : Addr) (xs : List V), x = .ref l /\ y = .ref b /\ SqL X.K H l xs /\ SqL X.K H b [] /\ Q (.bl (!xs.isEmpty)) H) := by
 intro pins s σ H x y v u Q I rx ry h
 obtain ⟨l, b, xs, rfl, rfl, hl, hb, q⟩ := h
 cases rx
 cases ry
 obtain ⟨its, r1, p1, _⟩ := I.list hl
 obtain ⟨its2, r2, p2, _⟩ := I.list hb
 have l1 := r1.length
 have l2 := r2.length
 cases xs with
 | nil =>
  refine SeqAt.RcNeAt.lists (e := fun _ => true) p1.isList p2.isList (by simp; omega) hu (fun j h1 h2 => ?_) X.prog X.w X.xe _ ?_
  ·have : j < its.length := by simpa using h1
   simp at l1; omega
  ·have e : (!((List.range its.toArray.size).all fun _ => true)) = false := by simp
   rw [e]
   exact ⟨.bl false, H, I, rfl, q⟩
 | cons x xs =>
  refine SeqAt.RcNeAt.lists_lengths p1.isList p2.isList ?_ hu X.prog X.w X.xe _ ⟨.bl true, H, I, rfl, q⟩
  rw [List.length_cons] at l1
  rw [List.length_nil] at l2
  rw [List.size_toArray, List.size_toArray, bne_iff_ne]
  omega
def xE : R2 := fun x y H Q => ∃ (n : Nat) (ds : List Dv), (∀ d ∈ ds, Pl n d) /\ n <= 140 /\ Rep H (.lst ds) x /\ Rep H (.lst ds) y /\ Q (.bl true) H
theorem tX (hu : X.A.units + 150 < cLine) : OpR X (compareOp .Eq) xE := by
 intro pins s σ H x y v u Q I rx ry h
 obtain ⟨n, ds, hd, hn, r1, r2, q⟩ := h
 simp only [Rep] at r1 r2
 obtain ⟨l, vs, rfl, h1, rs1⟩ := r1
 obtain ⟨b', ws, rfl, h2, rs2⟩ := r2
 cases rx
 cases ry
 obtain ⟨its, rv1, p1, _⟩ := I.list (SqL.of h1)
 obtain ⟨its2, rv2, p2, _⟩ := I.list (SqL.of h2)
 have hu' : X.A.in1.units + n < cLine := by show X.A.units + 1 + n < cLine; omega
 obtain ⟨z1, z2, w⟩ := fC I (A := X.A.in1) (n := n) (fun d hd1 e he v w a b r1 r2 q1 q2 => kb I (hd d hd1) (hd e he) hu' r1 r2 q1 q2) rs1 rs2 rv1 rv2
 refine SeqAt.RcAt.lists (e := fun j => dy (ds[j]? = ds[j]?)) p1.isList p2.isList (by omega) (by omega) w X.prog X.w X.xe _ ?_
 have e : ((List.range its.toArray.size).all fun j => dy (ds[j]? = ds[j]?)) = true := by
  rw [List.all_eq_true]
  exact fun j _ => cA.mpr rfl
 rw [e]
 exact ⟨.bl true, H, I, rfl, q⟩
theorem qb : dP X (.builtin "len") (fun vs H Q => ∃ d m, vs = [V.ref d] /\ H d = some (.dK m) /\ Q (.int m.length) H) := fun pins s σ H vs us Q I r h => by
 obtain ⟨d, m, rfl, hd, q⟩ := h
 obtain ⟨u, rfl, ru⟩ := fm r
 cases ru
 exact xC I (.inl hd) fun t _ J => ⟨.int m.length, H, J, ⟨t, rfl⟩, q⟩
end
theorem sF (l : Addr) (items : Array Value) (n : Nat) (dct : Option Addr) (slt : Array (Option Value)) (t : Tok) (hc1 : ¬(items.isEmpty || (0 : Int) == 1) = true) :
  Meets (Builtin.«tuple.__mul__» ⟨[.ref l, .int 0 t], []⟩) (fun _ R s => s.heap.get? l = some { cls := .type "tuple", dict := dct, data := .seq items n, slots := slt } /\ R (.ok (.ret (.ref s.heap.objs.size))) { s with heap := s.heap.push { cls := .type "tuple", data := .seq #[] } }) :=
 .of_wp fun prog w A R s h => by
  obtain ⟨hp, g, d, tk, os⟩ := s
  obtain ⟨hl, h⟩ := h
  have f1 := AutoSeq1.idx_int
  have f2 := AutoSeq1.sub_tuple_tuple
  have hc0 : ¬(decide ((0 : Int) < -2 ^ 63) || decide ((0 : Int) >= 2 ^ 63)) = true := by decide
  have hc2 : (decide ((0 : Int) <= 0) || items.isEmpty) = true := by simp
  wp_walk using AutoSeq1.wpAny_loadPart' hl
  rw [if_neg hc1]
  show wpAny _ _ (if (decide ((0 : Int) <= 0) || items.isEmpty) = true then _ else _) _ _ _
  rw [if_pos hc2]
  refine wpAny_bind (m := Builtin.Tuple.tupleExact _) (wpAny_newObj_type (wpAny_pure ⟨_, rfl, h⟩) (Nat.zero_le _))
theorem sd (l : Addr) (items : Array Value) (n : Nat) (dct : Option Addr) (slt : Array (Option Value)) (t : Tok) :
  Meets (Builtin.«tuple.__mul__» ⟨[.ref l, .int 1 t], []⟩) (fun _ R s => s.heap.get? l = some { cls := .type "tuple", dict := dct, data := .seq items n, slots := slt } /\ R (.ok (.ret (.ref l))) s) :=
 .of_wp fun prog w A R s h => by
  obtain ⟨hp, g, d, tk, os⟩ := s
  obtain ⟨hl, h⟩ := h
  have f1 := AutoSeq1.idx_int
  have f2 := AutoSeq1.sub_tuple_tuple
  have hc0 : ¬(decide ((1 : Int) < -2 ^ 63) || decide ((1 : Int) >= 2 ^ 63)) = true := by decide
  have hc1 : (items.isEmpty || (1 : Int) == 1) = true := by simp
  wp_walk using AutoSeq1.wpAny_loadPart' hl
  exact ⟨_, rfl, h⟩
section
variable {X : Cx}
def vz (K : PySem.W.Frag) : R2 := fun x y H Q => ∃ l k xs, x = .ref l /\ y = .int k /\ SqT K H l xs /\ xs ≠ [] /\ 0 <= k /\ k <= 1000 /\ xs.length * k.toNat <= 1000 /\ (k = 1 -> Q (.ref l) H) /\ (k ≠ 1 -> ∀ p, H p = none -> Q (.ref p) (upd H p (.tup (List.replicate k.toNat xs).flatten)))
theorem uA : OpR X (binaryOp .Mult) (vz X.K) := by
 intro pins s σ H x y v u Q I rx ry h
 obtain ⟨l, k, xs, rfl, rfl, hx, ne, k0, k3, hz, q1, q2⟩ := h
 by_cases h2 : 2 <= k
 ·exact uO pins s σ H _ _ v u Q I rx ry ⟨l, k, xs, rfl, rfl, hx, ne, h2, k3, hz, q2 (by omega)⟩
 cases rx
 obtain ⟨t, rfl⟩ := ry
 obtain ⟨its, r, ⟨⟨cls, dd, data, sl⟩, e, hc, n, hd⟩, z⟩ := I.tuple hx
 simp only at hc hd
 subst hc hd
 have hl := r.length
 have hne : its ≠ [] := fun e => ne (List.length_eq_zero_iff.mp (by rw [hl, e]; rfl))
 have hemp : its.toArray.isEmpty = false := by simpa using hne
 rcases (by omega : k = 0 \/ k = 1) with rfl | rfl
 ·refine wpAny_binaryOp_repeat_ref (T := "tuple") (U := "int") (by decide) ⟨_, e, rfl⟩ (fun s' => typeIs_int s' 0 t) cF F.fills_int_mul F.slot_int_rmul eB F.slot_int_index.lookup
   (call_meets F.slot_int_rmul (typeIs_int s 0 t) F.entry_int_rmul (F.args_int_rmul_2 _ _) (eE 0 t l its.toArray n dd sl)
    ⟨e, rfl, ⟨_, e, rfl⟩, call_meets F.slot_tuple_mul ⟨_, e, rfl⟩ F.entry_tuple_mul (F.args_tuple_mul_2 _ _) (sF l its.toArray n dd sl t (by rw [hemp]; decide)) ⟨e, ?_⟩⟩)
  refine ⟨.ref _, _, I.laid (t' := s.toks) (o := .tup []) (fun b ob q => Heap.get?_push_of_some _ q) (Nat.le_refl _) ?_, rfl, q2 (by decide) _ (I.hok.fresh (Nat.le_refl _))⟩
  exact ⟨Nat.zero_le _, [], .nil, IsTup.new _ _, NoD.new _ rfl⟩
 ·refine wpAny_binaryOp_repeat_ref (T := "tuple") (U := "int") (by decide) ⟨_, e, rfl⟩ (fun s' => typeIs_int s' 1 t) cF F.fills_int_mul F.slot_int_rmul eB F.slot_int_index.lookup
   (call_meets F.slot_int_rmul (typeIs_int s 1 t) F.entry_int_rmul (F.args_int_rmul_2 _ _) (eE 1 t l its.toArray n dd sl)
    ⟨e, rfl, ⟨_, e, rfl⟩, call_meets F.slot_tuple_mul ⟨_, e, rfl⟩ F.entry_tuple_mul (F.args_tuple_mul_2 _ _) (sd l its.toArray n dd sl t) ⟨e, ?_⟩⟩)
  exact ⟨.ref l, H, I, rfl, q1 rfl⟩
end
end L2
namespace XB
open PySem L2 KB
inductive So | n | x | l | k | w | f | y | e | a | r
deriving DecidableEq
def srt : So -> Str
 | .n => "number"
 | .x => "name"
 | .l => "length"
 | .k => "kind"
 | .w => "reckon"
 | .f => "def"
 | .y => "name"
 | .e => "part"
 | .a => "args"
 | .r => "things"
abbrev Wd := Str × Str × List So
def WT : List Wd := [("number", "n", [.n]), ("name", "x", [.x]), ("length", "l", [.l]), ("none", "k", [.k]), ("place", "ll", [.l, .l]), ("reckon", "wee", [.w, .e, .e]),
 ("if", "eee", [.e, .e, .e]), ("let", "xee", [.x, .e, .e]), ("call", "fa", [.f, .a]), ("pair", "ee", [.e, .e]), ("first", "e", [.e]), ("second", "e", [.e]),
 ("row", "r", [.r]), ("join", "ee", [.e, .e]), ("take", "le", [.l, .e]), ("drop", "le", [.l, .e]), ("zip", "ee", [.e, .e]), ("turn", "e", [.e]),
 ("get", "ee", [.e, .e]), ("value", "e", [.e]), ("up", "le", [.l, .e]), ("wide", "le", [.l, .e]), ("mirror", "e", [.e]), ("fork", "lexee", [.l, .e, .x, .e, .e]),
 ("when", "elxee", [.e, .l, .x, .e, .e]), ("loop", "xle", [.x, .l, .e]), ("fold", "xlyee", [.x, .l, .y, .e, .e])]
def ST : List Wd := [("number", "n", [.n]), ("name", "x", [.x]), ("length", "l", [.l]), ("reckon", "wee", [.w, .e, .e]), ("if", "eee", [.e, .e, .e]), ("let", "xee", [.x, .e, .e]),
 ("call", "fa", [.f, .a]), ("pair", "ee", [.e, .e]), ("first", "e", [.e]), ("second", "e", [.e]), ("row", "r", [.r]), ("none", "k", [.k]),
 ("join", "ee", [.e, .e]), ("take", "le", [.l, .e]), ("drop", "le", [.l, .e]), ("zip", "ee", [.e, .e]), ("turn", "e", [.e]), ("get", "ee", [.e, .e]),
 ("place", "ll", [.l, .l]), ("value", "e", [.e]), ("up", "le", [.l, .e]), ("wide", "le", [.l, .e]), ("mirror", "e", [.e]), ("fork", "lexee", [.l, .e, .x, .e, .e]),
 ("when", "elxee", [.e, .l, .x, .e, .e]), ("loop", "xle", [.x, .l, .e]), ("fold", "xlyee", [.x, .l, .y, .e, .e])]
theorem vA : ∀ p ∈ WT, p ∈ ST := by decide +kernel
theorem vo : (ST.map (·.1)).Nodup := by decide +kernel
theorem vv : (WT.map (·.1)).Nodup := by decide +kernel
theorem wu : ∀ p ∈ ST, p.2.2.length <= 5 := by decide +kernel
theorem pA : ∀ p ∈ WT, p.2.2.length <= 5 := by decide +kernel
def gG (ss : List So) : Nat := (ss.map fun | .e => 1 | .a => 4 | .r => 4 | _ => 0).sum
theorem tR : ∀ p ∈ WT, gG p.2.2 <= 4 := by decide +kernel
theorem vt : ∀ s : So, V.str (srt s) = V.str "part" ↔ s = .e := by
 intro s
 cases s <;> simp only [V.str.injEq, srt] <;> decide +kernel
theorem lZ : ∀ s : So, V.str (srt s) = V.str "args" ↔ s = .a := by
 intro s
 cases s <;> simp only [V.str.injEq, srt] <;> decide +kernel
theorem mN : ∀ s : So, V.str (srt s) = V.str "things" ↔ s = .r := by
 intro s
 cases s <;> simp only [V.str.injEq, srt] <;> decide +kernel
theorem vp : ∀ s : So, V.str (srt s) = V.str "number" ↔ s = .n := by
 intro s
 cases s <;> simp only [V.str.injEq, srt] <;> decide +kernel
theorem vC : ∀ s : So, V.str (srt s) = V.str "length" ↔ s = .l := by
 intro s
 cases s <;> simp only [V.str.injEq, srt] <;> decide +kernel
theorem vq : ∀ s : So, V.str (srt s) = V.str "kind" ↔ s = .k := by
 intro s
 cases s <;> simp only [V.str.injEq, srt] <;> decide +kernel
theorem vy : ∀ s : So, V.str (srt s) = V.str "reckon" ↔ s = .w := by
 intro s
 cases s <;> simp only [V.str.injEq, srt] <;> decide +kernel
theorem vc : ∀ s : So, V.str (srt s) = V.str "def" ↔ s = .f := by
 intro s
 cases s <;> simp only [V.str.injEq, srt] <;> decide +kernel
theorem tw : ∀ s : So, V.str (srt s) = V.str "name" ↔ (s = .x \/ s = .y) := by
 intro s
 cases s <;> simp only [V.str.injEq, srt] <;> decide +kernel
theorem oV {α : Type} {l : List α} {f : α -> Str} (hn : (l.map f).Nodup) {p : α} (hp : p ∈ l) : l.find? (fun q => decide (f q = f p)) = some p := by
 induction l with
 | nil => cases hp
 | cons q l ih =>
  rw [List.map_cons, List.nodup_cons] at hn
  rw [List.find?_cons]
  rcases List.mem_cons.mp hp with rfl | hp
  ·simp
  ·rw [show decide (f q = f p) = false from decide_eq_false fun e => hn.1 (by rw [e]; exact List.mem_map_of_mem hp)]
   exact ih hn.2 hp
structure Shp (P : Program) (w : World) (K : PySem.W.Frag) (g : Addr) : Prop where
 ex : ∃ kvs, FD P w K g kvs /\ (∀ p ∈ WT, ∃ b, look kvs p.1 = some b /\ ∀ H, SqT K H b (p.2.2.map fun s => V.str (srt s))) /\ ∀ x, (look kvs x).isSome = WT.any fun p => decide (p.1 = x)
def wt : DictEntry -> Str × Addr
 | ⟨_, .str x _, .ref b⟩ => (x, b)
 | _ => ("", 0)
inductive Ents (w : World) : List DictEntry -> Prop
 | nil : Ents w []
 | cons {x : Str} {t : Tok} {b : Addr} {es : List DictEntry} : Ents w es -> Ents w (⟨PyData.keyHash w.params x, .str x t, .ref b⟩ :: es)
inductive AreS : List Value -> List Str -> Prop
 | nil : AreS [] []
 | cons {x : Str} {t : Tok} {us : List Value} {xs : List Str} : AreS us xs -> AreS (.str x t :: us) (x :: xs)
theorem AreS.vals {us : List Value} {xs : List Str} (h : AreS us xs) : aL (xs.map V.str) us := by
 induction h with
 | nil => exact .nil
 | @cons x t us xs _ ih => exact .cons ⟨t, rfl⟩ ih
inductive TupsK (K : PySem.W.Frag) : List (Str × Addr) -> List Wd -> Prop
 | nil : TupsK K [] []
 | cons {x z : Str} {b : Addr} {kvs : List (Str × Addr)} {ss : List So} {ps : List Wd} {od : Option Addr} {its : List Value} {n : Nat} {sl : Array (Option Value)} :
  K.lookup b = some ⟨.type "tuple", od, .seq its.toArray n, sl⟩ -> AreS its (ss.map srt) -> TupsK K kvs ps -> TupsK K ((x, b) :: kvs) ((x, z, ss) :: ps)
theorem TupsK.keys {K : PySem.W.Frag} {kvs : List (Str × Addr)} {ps : List Wd} (h : TupsK K kvs ps) : kvs.map (·.1) = ps.map (·.1) := by
 induction h with
 | nil => rfl
 | cons _ _ _ ih => rw [List.map_cons, List.map_cons, ih]
theorem TupsK.look {K : PySem.W.Frag} {kvs : List (Str × Addr)} {ps : List Wd} (h : TupsK K kvs ps) (hf : ∀ p ∈ ps, p.2.2.length <= 5) : (ps.map (·.1)).Nodup -> ∀ p ∈ ps, ∃ b, L2.look kvs p.1 = some b /\ ∀ H, SqT K H b (p.2.2.map fun s => V.str (srt s)) := by
 induction h with
 | nil => intro _ p hp; cases hp
 | @cons x z b kvs ss ps od its n sl hl ha _ ih =>
  intro hn p hp
  rw [List.map_cons, List.nodup_cons] at hn
  unfold L2.look
  rw [List.find?_cons]
  rcases List.mem_cons.mp hp with rfl | hp'
  ·rw [decide_eq_true rfl]
   refine ⟨b, rfl, fun H => .inr ⟨_, _, _, hl, rfl, rfl, ?_, ?_⟩⟩
   ·have h5 : ss.length <= 5 := hf _ List.mem_cons_self
    have := ha.vals.length
    rw [List.length_map, List.length_map] at this
    rw [List.size_toArray, sizeLine_eq]
    omega
   ·have := ha.vals
    rw [List.map_map] at this
    exact this
  ·rw [decide_eq_false (fun e : x = p.1 => hn.1 (by rw [show (x, z, ss).1 = p.1 from e]; exact List.mem_map_of_mem (f := (·.1)) hp'))]
   exact ih (fun q hq => hf q (List.mem_cons_of_mem _ hq)) hn.2 p hp'
theorem Ents.pairs {P : Program} {w : World} {es : List DictEntry} (h : Ents w es) : Pairs (be P w) es ((es.map wt).map fun p => ((Sum.inr p.1 : Key), Value.ref p.2)) := by
 induction h with
 | nil => exact .nil
 | @cons x t b es _ ih => exact .cons (eY P w x t) rfl ih
theorem Ents.keys {P : Program} {w : World} {es : List DictEntry} (h : Ents w es) : ∀ e ∈ es, ∃ k, (be P w).is k e.key = true /\ e.hash = (be P w).hash k := by
 induction h with
 | nil => intro e he; cases he
 | @cons x t b es _ ih =>
  intro e he
  rcases List.mem_cons.mp he with rfl | he
  ·exact ⟨Sum.inr x, eY P w x t, rfl⟩
  ·exact ih e he
theorem qt (kvs : List (Str × Addr)) (x : Str) : (L2.look kvs x).isSome = (kvs.map (·.1)).any fun y => decide (y = x) := by
 unfold L2.look
 rw [Option.isSome_map]
 induction kvs with
 | nil => rfl
 | cons p kvs ih =>
  rw [List.find?_cons, List.map_cons, List.any_cons]
  by_cases h : p.1 = x
  ·rw [decide_eq_true h]; rfl
  ·rw [decide_eq_false h, Bool.false_or]; exact ih
theorem xb : ∀ p ∈ ST, p ∈ WT := by decide +kernel
theorem wa (x : Str) : (ST.map (·.1)).any (fun y => decide (y = x)) = WT.any fun p => decide (p.1 = x) := by
 rw [Bool.eq_iff_iff, List.any_eq_true, List.any_eq_true]
 constructor
 ·rintro ⟨y, hy, h⟩
  obtain ⟨p, hp, rfl⟩ := List.mem_map.mp hy
  exact ⟨p, xb p hp, h⟩
 ·rintro ⟨p, hp, h⟩
  exact ⟨p.1, List.mem_map_of_mem (vA p hp), h⟩
theorem shp_mk {P : Program} {w : World} {K : PySem.W.Frag} {g : Addr} {es : List DictEntry} {ep : Nat} (hl : K.lookup g = some ⟨.type "dict", none, .dict es.toArray ep, #[]⟩) (lo : (g == sysModules) = false) (he : Ents w es) (ht : TupsK K (es.map wt) ST) : Shp P w K g := by
 refine ⟨es.map wt, ⟨by rw [ht.keys]; exact vo, lo, _, _, _, hl, ⟨rfl, rfl, rfl⟩, rfl, fun e hm => he.keys e (by simpa using hm), by simpa using he.pairs⟩, fun p hp => ht.look wu vo p (vA p hp), fun x => by rw [qt, ht.keys, wa]⟩
inductive F2 (R : So -> Dv -> Prop) : List So -> List Dv -> Prop
 | nil : F2 R [] []
 | cons {s : So} {d : Dv} {ss : List So} {ds : List Dv} : R s d -> F2 R ss ds -> F2 R (s :: ss) (d :: ds)
theorem F2.length {R : So -> Dv -> Prop} {ss : List So} {ds : List Dv} (h : F2 R ss ds) : ds.length = ss.length := by
 induction h with
 | nil => rfl
 | cons _ _ ih => rw [List.length_cons, List.length_cons, ih]
theorem F2.get {R : So -> Dv -> Prop} {ss : List So} {ds : List Dv} (h : F2 R ss ds) {i : Nat} {s : So} (hs : ss[i]? = some s) : ∃ d, ds[i]? = some d /\ R s d := by
 induction h generalizing i with
 | nil => cases hs
 | cons h _ ih =>
  cases i with
  | zero => cases hs; exact ⟨_, rfl, h⟩
  | succ i => exact ih hs
def Fld (E : Dv -> Prop) (L : So -> Dv -> Prop) : So -> Dv -> Prop
 | .e, d => E d
 | .a, d => ∃ es, d = .tup es /\ es.length <= 4 /\ ∀ e ∈ es, E e
 | .r, d => ∃ es, d = .tup es /\ 1 <= es.length /\ es.length <= 4 /\ ∀ e ∈ es, E e
 | s, d => L s d
def oW : Dv -> List Dv
 | .tup ds => ds
 | _ => []
def ptD : So -> Dv -> List Dv
 | .e, d => [d]
 | .a, d => oW d
 | .r, d => oW d
 | _, _ => []
def bC : List So -> List Dv -> List Dv
 | s :: ss, d :: ds => ptD s d ++ bC ss ds
 | _, _ => []
def ug (w : Str) : List So := match WT.find? (fun q => decide (q.1 = w)) with
 | some p => p.2.2
 | none => []
theorem uf {p : Wd} (hp : p ∈ WT) : ug p.1 = p.2.2 := by unfold ug; rw [oV vv hp]
def cN : Dv -> List Dv
 | .tup (.str w :: ds) => bC (ug w) ds
 | _ => []
theorem parts_of {p : Wd} (hp : p ∈ WT) (ds : List Dv) : cN (.tup (.str p.1 :: ds)) = bC p.2.2 ds := by
 show bC (ug p.1) ds = _
 rw [uf hp]
theorem fi {E : Dv -> Prop} {L : So -> Dv -> Prop} {ss : List So} {ds : List Dv} (h : F2 (Fld E L) ss ds) : (∀ e ∈ bC ss ds, E e) /\ (bC ss ds).length <= gG ss := by
 induction h with
 | nil => exact ⟨fun e he => by simp [bC] at he, by simp [bC]⟩
 | @cons s d ss ds h _ ih =>
  obtain ⟨i1, i2⟩ := ih
  have em : gG (s :: ss) = gG [s] + gG ss := by simp [gG]
  rw [em]
  have key : (∀ e ∈ ptD s d, E e) /\ (ptD s d).length <= gG [s] := by
   cases s with
   | e => exact ⟨fun e he => by rw [List.mem_singleton.mp he]; exact h, Nat.le_refl _⟩
   | a => obtain ⟨es, rfl, h1, h2⟩ := h; exact ⟨h2, h1⟩
   | r => obtain ⟨es, rfl, h0, h1, h2⟩ := h; exact ⟨h2, h1⟩
   | _ => exact ⟨fun e he => by simp [ptD] at he, by simp [ptD, gG]⟩
  show (∀ e ∈ ptD s d ++ bC ss ds, E e) /\ (ptD s d ++ bC ss ds).length <= _
  refine ⟨fun e he => ?_, by rw [List.length_append]; omega⟩
  rcases List.mem_append.mp he with he | he
  ·exact key.1 e he
  ·exact i1 e he
theorem jw (ss : List So) (ds : List Dv) (i : Nat) {s : So} {d : Dv} (hs : ss[i]? = some s) (hd : ds[i]? = some d) : bC (ss.take (i + 1)) (ds.take (i + 1)) = bC (ss.take i) (ds.take i) ++ ptD s d := by
 induction i generalizing ss ds with
 | zero =>
  cases ss with
  | nil => cases hs
  | cons s' ss =>
   cases ds with
   | nil => cases hd
   | cons d' ds => cases hs; cases hd; simp [bC]
 | succ i ih =>
  cases ss with
  | nil => cases hs
  | cons s' ss =>
   cases ds with
   | nil => cases hd
   | cons d' ds =>
    simp only [List.take_succ_cons, bC]
    rw [ih ss ds hs hd, List.append_assoc]
theorem fc (xs : List V) (n : Nat) : bc xs none (some (n : Int)) = xs.take n := by
 unfold bc
 have e1 : HT.sIx xs.length xs.length (some (n : Int)) = min n xs.length := HT.sIx_nat _ _ _
 have e2 : HT.sIx xs.length 0 none = 0 := rfl
 rw [e1, e2, List.drop_zero, Nat.sub_zero]
 rcases Nat.le_total n xs.length with h | h
 ·rw [Nat.min_eq_left h]
 ·rw [Nat.min_eq_right h, List.take_length, List.take_of_length_le h]
theorem dW (xs : List V) (n : Nat) : bc xs (some (n : Int)) none = xs.drop n := by
 unfold bc
 have e1 : HT.sIx xs.length 0 (some (n : Int)) = min n xs.length := HT.sIx_nat _ _ _
 have e2 : HT.sIx xs.length xs.length none = xs.length := rfl
 rw [e1, e2]
 rcases Nat.le_total n xs.length with h | h
 ·rw [Nat.min_eq_left h, List.take_of_length_le (by rw [List.length_drop]; exact Nat.le_refl _)]
 ·rw [Nat.min_eq_right h, Nat.sub_self, List.take_zero, List.drop_of_length_le h]
theorem vK {t1 t2 : TT} {σ : St} {H : Hp} {Q : Bool -> Hp -> Prop} (q : Q true H) (f : Q true H -> tOr t1 t2 σ H Q) : tOr t1 t2 σ H Q := f q
theorem pG {K : PySem.W.Frag} {g : Addr} {us : List V} {lo hi : Option Int} {H : Hp} {Q : VK} (hg : H g = some (.tup us)) (k : ∀ H' p, ao H H' -> H' p = some (.tup (bc us lo hi)) -> Q (.ref p) H') : xM K (.ref g) lo hi H Q :=
 ⟨g, us, rfl, SqT.of hg, fun e => k H g (ao.refl _) (by rw [e]; exact hg), fun p hp => k _ p (af hp _) ad⟩
def wb (d : Dv) : Prop := ∃ (p : Wd) (ds : List Dv), p ∈ WT /\ d = .tup (.str p.1 :: ds) /\ F2 (Fld (fun _ => True) (fun _ _ => True)) p.2.2 ds
theorem pX {H : Hp} {ds : List Dv} {vs : List V} (h : aj H ds vs) {i : Nat} {d : Dv} (hd : ds[i]? = some d) : ∃ v, vs[i]? = some v /\ Rep H d v := by
 have l := h.length
 have hi : i < vs.length := by rw [l]; exact (List.getElem?_eq_some_iff.mp hd).1
 obtain ⟨e, he, r⟩ := h.get (List.getElem?_eq_getElem hi)
 rw [hd] at he
 cases he
 exact ⟨_, List.getElem?_eq_getElem hi, r⟩
theorem el {H : Hp} {d : Dv} {ds : List Dv} {vs : List V} (h : aj H (d :: ds) vs) : ∃ v ws, vs = v :: ws /\ Rep H d v /\ aj H ds ws := by simpa only [aj] using h
def pU {f : Nat -> V} {n : Nat} {g : TG} {tb : TS} {D : dc} {σ : St} {H : Hp} (Pv : Nat -> St -> Hp -> Prop) (h0 : Pv 0 σ H)
  (hs : ∀ i σ H (D' : dc), (∀ σ' H', Pv (i + 1) σ' H' -> D'.nx σ' H') -> i < n -> Pv i σ H -> g (f i) σ H fun σ2 H2 => tb D' σ2 H2) (hd : ∀ σ H, Pv n σ H -> D.nx σ H) := uB (f := f) (n := n) (g := g) (tb := tb) (D := D) (σ := σ) (H := H) Pv h0 (fun i σ H hi p => hs i σ H _ (fun _ _ h => h) hi p) hd
def gT {lo : Int} {n : Nat} {g : TG} {tb : TS} {D : dc} {σ : St} {H : Hp} (Pv : Nat -> St -> Hp -> Prop) (h0 : Pv 0 σ H)
  (hs : ∀ i σ H (D' : dc), (∀ σ' H', Pv (i + 1) σ' H' -> D'.nx σ' H') -> i < n -> Pv i σ H -> g (.int (lo + i)) σ H fun σ2 H2 => tb D' σ2 H2) (hd : ∀ σ H, Pv n σ H -> D.nx σ H) := qx (lo := lo) (n := n) (g := g) (tb := tb) (D := D) (σ := σ) (H := H) Pv h0 (fun i σ H hi p => hs i σ H _ (fun _ _ h => h) hi p) hd
def gQ {K : PySem.W.Frag} {a b : Addr} {xs ys : List V} {g : TG} {tb : TS} {D : dc} {σ : St} {H : Hp} (Pv : Nat -> St -> Hp -> Prop) (h0 : Pv 0 σ H) (hl : ∀ i σ H, Pv i σ H -> SqT K H a xs /\ SqT K H b ys)
  (hs : ∀ i x y σ H p (D' : dc), (∀ v H, D.rt v H -> D'.rt v H) -> (∀ σ' H', Pv (i + 1) σ' H' -> D'.nx σ' H') -> xs[i]? = some x -> ys[i]? = some y -> Pv i σ H -> H p = none -> g (.ref p) σ (upd H p (.tup [x, y])) fun σ2 H2 => tb D' σ2 H2) (hd : ∀ σ H, Pv (min xs.length ys.length) σ H -> D.nx σ H) :=
 qM (K := K) (a := a) (b := b) (xs := xs) (ys := ys) (g := g) (tb := tb) (D := D) (σ := σ) (H := H) Pv h0 hl (fun i x y σ H p hx hy q hp => hs i x y σ H p _ (fun _ _ h => h) (fun _ _ h => h) hx hy q hp) hd
theorem mP {c : TT} {tb : TS} {D : dc} {σ : St} {H : Hp} (Pv : Nat -> St -> Hp -> Prop) (m : Nat) (h0 : Pv m σ H)
  (hs : ∀ m σ H (D' : dc), (∀ v H, D.rt v H -> D'.rt v H) -> (∀ m' σ' H', m' < m -> Pv m' σ' H' -> D'.nx σ' H') -> Pv m σ H -> c σ H fun b H1 => if b = true then tb D' σ H1 else D.nx σ H1)
  (mono : ∀ σ H Q Q', (∀ b H1, Q b H1 -> Q' b H1) -> c σ H Q -> c σ H Q') : oB c tb D σ H :=
 oP Pv m h0 (fun m σ H p => hs m σ H _ (fun _ _ h => h) (fun m' _ _ l q => ⟨m', l, q⟩) p) mono
end XB
namespace K24
open PySem L2 KB XB
def top (i : Nat) : Stmt := PySem.Challenge.pw_indexwise_k24_programs_checked.main.body.getD i (.Pass ⟨0, 0, 0, 0⟩)
def sU : List Str := ["plus", "minus", "times", "less", "same"]
structure Txt (K : PySem.W.Frag) (mg : Str -> Option Value) : Prop where
 len : mg "len" = none
 isinstance : mg "isinstance" = none
 int : mg "int" = none
 bool : mg "bool" = none
 str : mg "str" = none
 tuple : mg "tuple" = none
 list : mg "list" = none
 all : mg "all" = none
 zip : mg "zip" = none
 range : mg "range" = none
 enumerate : mg "enumerate" = none
 max : mg "max" = none
 set : mg "set" = none
 sorted : mg "sorted" = none
 reversed : mg "reversed" = none
 lLONGEST_NAME : ∃ t, mg "LONGEST_NAME" = some (.int 8 t)
 lGREATEST_SIZE : ∃ t, mg "GREATEST_SIZE" = some (.int 12 t)
 lGREATEST_NUMBER : ∃ t, mg "GREATEST_NUMBER" = some (.int 99 t)
 lWHOLE_BOUND : ∃ t, mg "WHOLE_BOUND" = some (.int 1000000000000 t)
 lMOST_NODES : ∃ t, mg "MOST_NODES" = some (.int 40 t)
 lMOST_ABOVE : ∃ t, mg "MOST_ABOVE" = some (.int 7 t)
 lMOST_THINGS : ∃ t, mg "MOST_THINGS" = some (.int 4 t)
 lMOST_ROWS : ∃ t, mg "MOST_ROWS" = some (.int 12 t)
theorem Txt.g_LONGEST_NAME {X : Cx} {pos : Pos} (T : Txt X.K X.mg) (hg : Gl X "LONGEST_NAME") : PE X (.Name "LONGEST_NAME" pos) (tC (.int 8)) := by
 obtain ⟨t, e⟩ := T.lLONGEST_NAME
 exact bG hg e ⟨t, rfl⟩
theorem Txt.g_GREATEST_SIZE {X : Cx} {pos : Pos} (T : Txt X.K X.mg) (hg : Gl X "GREATEST_SIZE") : PE X (.Name "GREATEST_SIZE" pos) (tC (.int 12)) := by
 obtain ⟨t, e⟩ := T.lGREATEST_SIZE
 exact bG hg e ⟨t, rfl⟩
theorem Txt.g_GREATEST_NUMBER {X : Cx} {pos : Pos} (T : Txt X.K X.mg) (hg : Gl X "GREATEST_NUMBER") : PE X (.Name "GREATEST_NUMBER" pos) (tC (.int 99)) := by
 obtain ⟨t, e⟩ := T.lGREATEST_NUMBER
 exact bG hg e ⟨t, rfl⟩
theorem Txt.g_WHOLE_BOUND {X : Cx} {pos : Pos} (T : Txt X.K X.mg) (hg : Gl X "WHOLE_BOUND") : PE X (.Name "WHOLE_BOUND" pos) (tC (.int 1000000000000)) := by
 obtain ⟨t, e⟩ := T.lWHOLE_BOUND
 exact bG hg e ⟨t, rfl⟩
theorem Txt.g_MOST_NODES {X : Cx} {pos : Pos} (T : Txt X.K X.mg) (hg : Gl X "MOST_NODES") : PE X (.Name "MOST_NODES" pos) (tC (.int 40)) := by
 obtain ⟨t, e⟩ := T.lMOST_NODES
 exact bG hg e ⟨t, rfl⟩
theorem Txt.g_MOST_ABOVE {X : Cx} {pos : Pos} (T : Txt X.K X.mg) (hg : Gl X "MOST_ABOVE") : PE X (.Name "MOST_ABOVE" pos) (tC (.int 7)) := by
 obtain ⟨t, e⟩ := T.lMOST_ABOVE
 exact bG hg e ⟨t, rfl⟩
theorem Txt.g_MOST_THINGS {X : Cx} {pos : Pos} (T : Txt X.K X.mg) (hg : Gl X "MOST_THINGS") : PE X (.Name "MOST_THINGS" pos) (tC (.int 4)) := by
 obtain ⟨t, e⟩ := T.lMOST_THINGS
 exact bG hg e ⟨t, rfl⟩
theorem Txt.g_MOST_ROWS {X : Cx} {pos : Pos} (T : Txt X.K X.mg) (hg : Gl X "MOST_ROWS") : PE X (.Name "MOST_ROWS" pos) (tC (.int 12)) := by
 obtain ⟨t, e⟩ := T.lMOST_ROWS
 exact bG hg e ⟨t, rfl⟩
abbrev cG : Stmt := top 7
abbrev di : Stmt := top 8
abbrev dg : Stmt := top 9
abbrev cv : Stmt := top 10
abbrev cr : Stmt := top 11
def cf : Dv -> Bool
 | .int _ => true
 | _ => false
def bJ : Dv -> Bool
 | .str x => nmB x
 | _ => false
def geD (k : Int) : Dv -> Bool
 | .int i => decide (k <= i)
 | _ => false
def eT : Dv -> Bool
 | .tup [a, b] => bJ a && (cf b && geD 1 b)
 | _ => false
def headD : Dv -> Str
 | .tup (.str x :: _) => x
 | _ => ""
def goD (last : Str) : List Dv -> Bool
 | [] => true
 | p :: r => eT p && (decide (last.cps.toList < (headD p).cps.toList) && goD (headD p) r)
def gJ : Dv -> Bool
 | .tup xs => goD "" xs
 | _ => false
def ko : Dv -> Bool
 | .tup [a, b] => cf a && (geD 0 a && gJ b)
 | _ => false
def spD (f : Dv -> Bool) : Sp := fun vs H Q _ => ∃ v d, vs = [v] /\ Rep H d v /\ ∀ H', ao H H' -> Q (.bl (f d)) H'
section
variable {P : Program} {w : World} {K : PySem.W.Frag} {mg : Str -> Option Value} {base : Heap}
theorem mK : aH ["thing"] ["thing"] (ai cG) := ⟨rfl, rfl, rfl, by decide +kernel, rfl, by decide +kernel, by decide +kernel⟩
theorem mf {f : Addr} {fd : FuncData} (F : Fun K "is_whole" "is_whole" cG f fd) (T : Txt K mg) : bi P w K mg base CX0 1 f fd ["thing"] (spD cf) := by
 refine F.ok mK (fun vs H Q E h => ?_) (fun cdv A outer s H vs Q E hr h => ?_)
 ·obtain ⟨v, d, rfl, _⟩ := h
  rfl
 obtain ⟨v, d, rfl, R, q⟩ := h
 refine ⟨_, (@ah _ _ _ (@ar _ _ _ _ (@bm _ _ _ _ _ _ _ (@ax _ _ _ _ _ _ _ _ _ bB rfl T.isinstance (by decide +kernel) (@aa _ _ _ _ _ (@pv _ 0 _ _ (by rfl) (by trivial) (by decide) (by decide)) (@aa _ _ _ _ _ (@bX _ _ (.ty "int") _ _ rfl T.int (by decide +kernel) rfl (by decide) (by decide)) (@ab _) (by rfl)) (by rfl)) (by decide) (by decide) (by rfl) (by rfl)) (@bH _ _ _ _ _ (@wy _ _ _ _ (@ax _ _ _ _ _ _ _ _ _ bB rfl T.isinstance (by decide +kernel) (@aa _ _ _ _ _ (@pv _ 0 _ _ (by rfl) (by trivial) (by decide) (by decide)) (@aa _ _ _ _ _ (@bX _ _ (.ty "bool") _ _ rfl T.bool (by decide +kernel) rfl (by decide) (by decide)) (@ab _) (by rfl)) (by rfl)) (by decide) (by decide) (by rfl) (by rfl))))))), ?_⟩
 refine ⟨_, rfl, v, _, _, _, rfl, R.ty, ue K d, _, rfl, ?_⟩
 cases d with
 | int i => exact aO ⟨_, rfl, v, _, _, _, rfl, R.ty, lh K _, _, rfl, q H (ao.refl H)⟩
 | bl b => exact aO ⟨_, rfl, v, _, _, _, rfl, R.ty, lh K _, _, rfl, q H (ao.refl H)⟩
 | _ => exact aM (q H (ao.refl H))
end
def spS (f : Dv -> Bool) : Sp := fun vs H Q _ => ∃ v d, vs = [v] /\ Rep H d v /\ d.small = true /\ ∀ H', ao H H' -> Q (.bl (f d)) H'
section
variable {P : Program} {w : World} {K : PySem.W.Frag} {mg : Str -> Option Value} {base : Heap}
theorem rJ (a b : Nat) : decide (([a] : List Nat) < [b]) = decide (a < b) := by
 by_cases h : a < b
 ·rw [decide_eq_true h]
  exact decide_eq_true (List.cons_lt_cons_iff.mpr (.inl h))
 ·rw [decide_eq_false h]
  exact decide_eq_false fun z => by
   rcases List.cons_lt_cons_iff.mp z with z | ⟨_, z⟩
   ·exact h z
   ·exact List.not_lt_nil _ z
theorem vU (x : Str) : ((List.range x.cps.size).map fun i => azB (x.cps.getD i 0)).all id = x.cps.toList.all azB := by
 have e : (List.range x.cps.size).map (fun i => azB (x.cps.getD i 0)) = x.cps.toList.map azB := by
  apply List.ext_getElem?
  intro i
  rw [List.getElem?_map, List.getElem?_map]
  by_cases hi : i < x.cps.size
  ·rw [List.getElem?_range hi]
   simp [hi]
  ·rw [List.getElem?_eq_none (by simpa using hi), List.getElem?_eq_none (by simpa using hi)]
   rfl
 rw [e, List.all_map]
 rfl
theorem og : aH ["thing"] ["thing"] (ai di) := ⟨rfl, rfl, rfl, by decide +kernel, rfl, by decide +kernel, by decide +kernel⟩
theorem nB {f : Addr} {fd : FuncData} (F : Fun K "is_name" "is_name" di f fd) (T : Txt K mg) : bi P w K mg base CX0 1 f fd ["thing"] (spS bJ) := by
 refine F.ok og (fun vs H Q E h => ?_) (fun cdv A outer s H vs Q E hr h => ?_)
 ·obtain ⟨v, d, rfl, _⟩ := h
  rfl
 obtain ⟨v, d, rfl, R, hsm, q⟩ := h
 refine ⟨_, (@ae _ _ _ _ _ (@aN _ _ _ _ _ _ _ _ (@PW.pt _ _ _ (@cD _ _ _ _ _ _ _ (@bM _ _ _ _ (@bF _ _ _ (@ax _ _ _ _ _ _ _ _ _ bB rfl T.isinstance (by decide +kernel) (@aa _ _ _ _ _ (@pv _ 0 _ _ (by rfl) (by trivial) (by decide) (by decide)) (@aa _ _ _ _ _ (@bX _ _ (.ty "str") _ _ rfl T.str (by decide +kernel) rfl (by decide) (by decide)) (@ab _) (by rfl)) (by rfl)) (by decide) (by decide) (by rfl) (by rfl)) (by intro _; rfl))) (@cj _ _ _ _ (@bM _ _ _ _ (@tz _ _ _ _ _ _ _ _ _ _ _ _ jo jo (@ac _ _ _ _) (@ax _ _ _ _ _ _ _ _ _ fM rfl T.len (by decide +kernel) (@aa _ _ _ _ _ (@pv _ 0 _ _ (by rfl) (by trivial) (by decide) (by decide)) (@ab _) (by rfl)) (by decide) (by decide) (by rfl) (by rfl)) (T.g_LONGEST_NAME rfl) (by with_unfolding_all rfl)))))) (@ah _ _ _ (@ar _ _ _ _ (@bN _ _ _ _))) (@av _)) (@ah _ _ _ (@ar _ _ _ _ (@ax _ _ _ _ _ _ _ _ _ (gj rfl) rfl T.all (by decide +kernel) (@aa _ _ _ _ _ (@ga _ _ (["sign"]) ([]) _ _ _ _ _ _ _ _ _ (@vS _ _ _ _ (@pv _ 0 _ _ (by rfl) (by trivial) (by decide) (by decide))) (.of rfl) rfl (fun _ _ _ => aK (i := 0) (dG (l := ["sign"]) ((by decide +kernel)) rfl) rfl (Or.inl rfl)) (cz (by decide)) (fun _ _ _ => (@cx _)) (fun _ _ _ => (@iD _ _ _ _ _ _ _ _ _ _ _ _ gr gr (@aD _ _ _ _) (@pv _ 0 _ _ (by rfl) (by trivial) (by decide) (by decide)) (@aD _ _ _ _) (by with_unfolding_all rfl))) (by intro _; rfl)) (@ab _) (by rfl)) (by decide) (by decide) (by rfl) (by rfl))))), ?_⟩
 refine ⟨_, rfl, v, _, _, _, rfl, R.ty, jR K d, _, rfl, ?_⟩
 cases d with
 | str x =>
  have hx : x.cps.size <= 1000 := by simpa [Dv.small] using hsm
  obtain rfl : v = .str x := R
  refine aM ⟨_, rfl, x, rfl, uG hx, _, _, rfl, rfl, _, rfl, ?_⟩
  have no : nmB x = false -> Q (.bl false) H := fun e => by
   have := q H (ao.refl H)
   rwa [show bJ (.str x) = false from e] at this
  refine bn (fun h1 => ?_) (fun h1 => ?_)
  ·refine ⟨_, _, rfl, rfl, _, rfl, ?_⟩
   have h1' : 1 <= x.cps.size := by
    have := of_decide_eq_true h1
    have e : x.length = x.cps.size := rfl
    omega
   by_cases h8 : x.cps.size <= 8
   ·rw [show decide (((x.length : Nat) : Int) <= 8) = true from decide_eq_true (by have e : x.length = x.cps.size := rfl; omega)]
    refine aM ?_
    refine ⟨_, rfl, x, rfl, nq (F := fun i => V.bl (azB (x.cps.getD i 0))) (fun i ys hi hl => ?_) fun a ha => ⟨a, (List.range x.cps.size).map fun i => azB (x.cps.getD i 0), rfl, SqL.of ?_, ?_⟩⟩
    ·refine cn ⟨_, rfl, _, _, rfl, rfl, _, rfl, ?_⟩
     have e1 : decide ((⟨#[x.cps.getD i 0]⟩ : Str).cps.toList < (Str.ofString "a").cps.toList) = decide (x.cps.getD i 0 < 97) := rJ _ _
     have e2 : decide ((Str.ofString "z").cps.toList < (⟨#[x.cps.getD i 0]⟩ : Str).cps.toList) = decide (122 < x.cps.getD i 0) := rJ _ _
     rw [e1]
     by_cases c1 : x.cps.getD i 0 < 97
     ·rw [decide_eq_true c1]
      refine aM ⟨by rw [hl, sizeLine_eq]; omega, ?_, rfl⟩
      unfold azB
      rw [decide_eq_false (by omega)]
      rfl
     ·rw [decide_eq_false c1]
      refine aO ⟨_, _, rfl, rfl, ?_⟩
      refine ⟨by rw [hl, sizeLine_eq]; omega, ?_, rfl⟩
      rw [e2]
      unfold azB
      rw [decide_eq_true (show 97 <= x.cps.getD i 0 by omega)]
      by_cases c2 : 122 < x.cps.getD i 0
      ·rw [decide_eq_true c2, decide_eq_false (by omega)]; rfl
      ·rw [decide_eq_false c2, decide_eq_true (by omega)]; rfl
    ·rw [ad, List.map_map]
     rfl
    ·rw [vU]
     have := q _ (af ha (.lst ((List.range x.cps.size).map fun i => V.bl (azB (x.cps.getD i 0)))))
     rwa [show bJ (.str x) = x.cps.toList.all azB by
      show nmB x = _
      unfold nmB
      rw [decide_eq_true h1', decide_eq_true h8]
      rfl] at this
   ·rw [show decide (((x.length : Nat) : Int) <= 8) = false from decide_eq_false (by have e : x.length = x.cps.size := rfl; omega)]
    refine aO (no ?_)
    unfold nmB
    rw [decide_eq_false h8, Bool.and_false, Bool.false_and]
  ·refine ⟨_, rfl, aO (no ?_)⟩
   have h1' : ¬ 1 <= x.cps.size := by
    have := of_decide_eq_false (Bool.eq_false_iff.mpr h1)
    have e : x.length = x.cps.size := rfl
    omega
   unfold nmB
   rw [decide_eq_false h1', Bool.false_and, Bool.false_and]
 | _ => exact aO (aO (q H (ao.refl H)))
end
section
variable {P : Program} {w : World} {K : PySem.W.Frag} {mg : Str -> Option Value} {base : Heap}
theorem nN (ds : List Dv) : (∃ a b, ds = [a, b]) \/ (∀ a b, ds ≠ [a, b]) := by
 match ds with
 | [] => exact .inr fun a b e => nomatch e
 | [_] => exact .inr fun a b e => nomatch e
 | [a, b] => exact .inl ⟨a, b, rfl⟩
 | _ :: _ :: _ :: _ => exact .inr fun a b e => nomatch e
theorem kr {ds : List Dv} (h : ∀ a b, ds ≠ [a, b]) : ds.length ≠ 2 := fun e => by
 match ds, e with
 | [a, b], _ => exact h a b rfl
theorem rK {ds : List Dv} (h : ∀ a b, ds ≠ [a, b]) : eT (.tup ds) = false := by
 match ds with
 | [] => rfl
 | [_] => rfl
 | [a, b] => exact absurd rfl (h a b)
 | _ :: _ :: _ :: _ => rfl
theorem tY {ds : List Dv} (h : ∀ a b, ds ≠ [a, b]) : ko (.tup ds) = false := by
 match ds with
 | [] => rfl
 | [_] => rfl
 | [a, b] => exact absurd rfl (h a b)
 | _ :: _ :: _ :: _ => rfl
theorem pF {k : Int} {d : Dv} (h : cf d = true) : ∃ i, d = .int i /\ geD k d = decide (k <= i) := by
 cases d with
 | int i => exact ⟨i, rfl, rfl⟩
 | _ => cases h
theorem jW {a b : Dv} (h : (Dv.tup [a, b]).small = true) : a.small = true /\ b.small = true := by
 simp only [Dv.small, bb, Bool.and_eq_true] at h
 exact ⟨h.1.1, h.1.2.1⟩
theorem nX : aH ["thing"] ["thing"] (ai dg) := ⟨rfl, rfl, rfl, by decide +kernel, rfl, by decide +kernel, by decide +kernel⟩
theorem nA {f : Addr} {fd : FuncData} {k : Nat} (F : Fun K "is_part" "is_part" dg f fd) (T : Txt K mg) (Dis_whole : Def P w K mg base k "is_whole" ["thing"] (spD cf)) (Dis_name : Def P w K mg base k "is_name" ["thing"] (spS bJ)) :
  bi P w K mg base CX0 (k + 1) f fd ["thing"] (spS eT) := by
 refine F.ok nX (fun vs H Q E h => ?_) (fun cdv A outer s H vs Q E hr h => ?_)
 ·obtain ⟨v, d, rfl, _⟩ := h
  rfl
 obtain ⟨v, d, rfl, R, hsm, q⟩ := h
 refine ⟨_, (@ae _ _ _ _ _ (@aN _ _ _ _ _ _ _ _ (@PW.pt _ _ _ (@cD _ _ _ _ _ _ _ (@bM _ _ _ _ (@bF _ _ _ (@ax _ _ _ _ _ _ _ _ _ bB rfl T.isinstance (by decide +kernel) (@aa _ _ _ _ _ (@pv _ 0 _ _ (by rfl) (by trivial) (by decide) (by decide)) (@aa _ _ _ _ _ (@bX _ _ (.ty "tuple") _ _ rfl T.tuple (by decide +kernel) rfl (by decide) (by decide)) (@ab _) (by rfl)) (by rfl)) (by decide) (by decide) (by rfl) (by rfl)) (by intro _; rfl))) (@cj _ _ _ _ (@ap _ _ _ _ _ _ _ _ fP (@ax _ _ _ _ _ _ _ _ _ aI rfl T.len (by decide +kernel) (@aa _ _ _ _ _ (@pv _ 0 _ _ (by rfl) (by trivial) (by decide) (by decide)) (@ab _) (by rfl)) (by decide) (by decide) (by rfl) (by rfl)) (@ac _ _ _ _) (aq _))))) (@ah _ _ _ (@ar _ _ _ _ (@bN _ _ _ _))) (@av _)) (@ah _ _ _ (@ar _ _ _ _ (@bm _ _ _ _ _ _ _ (@au _ _ _ _ _ _ _ _ _ _ Dis_name hr rfl (@aa _ _ _ _ _ (@ay _ _ _ _ _ _ _ aB (@pv _ 0 _ _ (by rfl) (by trivial) (by decide) (by decide)) (@ac _ _ _ _) (fun _ _ => rfl)) (@ab _) (by rfl)) (by decide) (by rfl) (by rfl)) (@bm _ _ _ _ _ _ _ (@au _ _ _ _ _ _ _ _ _ _ Dis_whole hr rfl (@aa _ _ _ _ _ (@ay _ _ _ _ _ _ _ aB (@pv _ 0 _ _ (by rfl) (by trivial) (by decide) (by decide)) (@ac _ _ _ _) (fun _ _ => rfl)) (@ab _) (by rfl)) (by decide) (by rfl) (by rfl)) (@bH _ _ _ _ _ (@bd _ _ _ _ _ _ _ _ vb (@ay _ _ _ _ _ _ _ aB (@pv _ 0 _ _ (by rfl) (by trivial) (by decide) (by decide)) (@ac _ _ _ _) (fun _ _ => rfl)) (@ac _ _ _ _) (aq _)))))))), ?_⟩
 refine ⟨_, rfl, v, _, _, _, rfl, R.ty, dh K d, _, rfl, ?_⟩
 cases d with
 | tup ds =>
  obtain ⟨a, vs, rfl, ha, rs⟩ := Rep.tup_inv R
  have hl := rs.length
  refine aM ⟨_, rfl, a, vs, rfl, .inr (SqT.of ha), rfl, _, rfl, ?_⟩
  rcases nN ds with ⟨d0, d1, rfl⟩ | no
  ·obtain ⟨x, y, rfl, R0, R1⟩ := aj.two rs
   obtain ⟨z0, z1⟩ := jW hsm
   refine vi rfl ?_
   have qe : ∀ c H', ao H H' -> eT (.tup [d0, d1]) = c -> Q (.bl c) H' := fun c H' s1 e => e ▸ q H' s1
   refine ⟨_, rfl, a, _, 0, x, rfl, rfl, SqT.of ha, ak (j := 0) rfl, x, d0, rfl, R0, z0, fun H1 s1 => ⟨_, rfl, ?_⟩⟩
   cases c0 : bJ d0 with
   | false => exact aM (qe _ H1 s1 (by show (bJ d0 && _) = false; rw [c0]; rfl))
   | true =>
    refine aO ⟨_, rfl, a, _, 1, y, rfl, rfl, SqT.of (s1 _ _ ha), ak (j := 1) rfl, y, d1, rfl, R1.mono s1, fun H2 s2 => ⟨_, rfl, ?_⟩⟩
    cases c1 : cf d1 with
    | false => exact aM (qe _ H2 (s1.trans s2) (by show (bJ d0 && (cf d1 && _)) = false; rw [c0, c1]; rfl))
    | true =>
     obtain ⟨i, rfl, e⟩ := pF (k := 1) c1
     obtain rfl : y = .int i := R1
     refine aO ⟨_, rfl, a, _, 1, .int i, rfl, rfl, SqT.of (s2 _ _ (s1 _ _ ha)), ak (j := 1) rfl, _, _, rfl, rfl, ?_⟩
     refine qe _ H2 (s1.trans s2) ?_
     show (bJ d0 && (cf (.int i) && geD 1 (.int i))) = _
     rw [c0, c1, e]
     rfl
  ·have hn : ¬ (V.int ((vs.length : Nat) : Int) = V.int 2) := fun e => kr no (by injection e with e; omega)
   rw [decide_eq_false hn]
   refine aO ?_
   have := q H (ao.refl H)
   rwa [rK no] at this
 | _ => exact aO (aO (q H (ao.refl H)))
theorem kU : aH ["thing"] ["thing"] (ai cr) := ⟨rfl, rfl, rfl, by decide +kernel, rfl, by decide +kernel, by decide +kernel⟩
theorem jS {f : Addr} {fd : FuncData} {k : Nat} (F : Fun K "is_length" "is_length" cr f fd) (T : Txt K mg) (Dis_whole : Def P w K mg base k "is_whole" ["thing"] (spD cf)) (Dare_parts : Def P w K mg base k "are_parts" ["thing"] (spS gJ)) :
  bi P w K mg base CX0 (k + 1) f fd ["thing"] (spS ko) := by
 refine F.ok kU (fun vs H Q E h => ?_) (fun cdv A outer s H vs Q E hr h => ?_)
 ·obtain ⟨v, d, rfl, _⟩ := h
  rfl
 obtain ⟨v, d, rfl, R, hsm, q⟩ := h
 refine ⟨_, (@ae _ _ _ _ _ (@aN _ _ _ _ _ _ _ _ (@PW.pt _ _ _ (@cD _ _ _ _ _ _ _ (@bM _ _ _ _ (@bF _ _ _ (@ax _ _ _ _ _ _ _ _ _ bB rfl T.isinstance (by decide +kernel) (@aa _ _ _ _ _ (@pv _ 0 _ _ (by rfl) (by trivial) (by decide) (by decide)) (@aa _ _ _ _ _ (@bX _ _ (.ty "tuple") _ _ rfl T.tuple (by decide +kernel) rfl (by decide) (by decide)) (@ab _) (by rfl)) (by rfl)) (by decide) (by decide) (by rfl) (by rfl)) (by intro _; rfl))) (@cj _ _ _ _ (@ap _ _ _ _ _ _ _ _ fP (@ax _ _ _ _ _ _ _ _ _ aI rfl T.len (by decide +kernel) (@aa _ _ _ _ _ (@pv _ 0 _ _ (by rfl) (by trivial) (by decide) (by decide)) (@ab _) (by rfl)) (by decide) (by decide) (by rfl) (by rfl)) (@ac _ _ _ _) (aq _))))) (@ah _ _ _ (@ar _ _ _ _ (@bN _ _ _ _))) (@av _)) (@ah _ _ _ (@ar _ _ _ _ (@bm _ _ _ _ _ _ _ (@au _ _ _ _ _ _ _ _ _ _ Dis_whole hr rfl (@aa _ _ _ _ _ (@ay _ _ _ _ _ _ _ aB (@pv _ 0 _ _ (by rfl) (by trivial) (by decide) (by decide)) (@ac _ _ _ _) (fun _ _ => rfl)) (@ab _) (by rfl)) (by decide) (by rfl) (by rfl)) (@bm _ _ _ _ _ _ _ (@bd _ _ _ _ _ _ _ _ vb (@ay _ _ _ _ _ _ _ aB (@pv _ 0 _ _ (by rfl) (by trivial) (by decide) (by decide)) (@ac _ _ _ _) (fun _ _ => rfl)) (@ac _ _ _ _) (aq _)) (@bH _ _ _ _ _ (@au _ _ _ _ _ _ _ _ _ _ Dare_parts hr rfl (@aa _ _ _ _ _ (@ay _ _ _ _ _ _ _ aB (@pv _ 0 _ _ (by rfl) (by trivial) (by decide) (by decide)) (@ac _ _ _ _) (fun _ _ => rfl)) (@ab _) (by rfl)) (by decide) (by rfl) (by rfl)))))))), ?_⟩
 refine ⟨_, rfl, v, _, _, _, rfl, R.ty, dh K d, _, rfl, ?_⟩
 cases d with
 | tup ds =>
  obtain ⟨a, vs, rfl, ha, rs⟩ := Rep.tup_inv R
  have hl := rs.length
  refine aM ⟨_, rfl, a, vs, rfl, .inr (SqT.of ha), rfl, _, rfl, ?_⟩
  rcases nN ds with ⟨d0, d1, rfl⟩ | no
  ·obtain ⟨x, y, rfl, R0, R1⟩ := aj.two rs
   obtain ⟨z0, z1⟩ := jW hsm
   refine vi rfl ?_
   have qe : ∀ c H', ao H H' -> ko (.tup [d0, d1]) = c -> Q (.bl c) H' := fun c H' s1 e => e ▸ q H' s1
   refine ⟨_, rfl, a, _, 0, x, rfl, rfl, SqT.of ha, ak (j := 0) rfl, x, d0, rfl, R0, fun H1 s1 => ⟨_, rfl, ?_⟩⟩
   cases c0 : cf d0 with
   | false => exact aM (qe _ H1 s1 (by show (cf d0 && _) = false; rw [c0]; rfl))
   | true =>
    obtain ⟨i, rfl, e⟩ := pF (k := 0) c0
    obtain rfl : x = .int i := R0
    refine aO ⟨_, rfl, a, _, 0, .int i, rfl, rfl, SqT.of (s1 _ _ ha), ak (j := 0) rfl, _, _, rfl, rfl, _, rfl, ?_⟩
    by_cases c1 : 0 <= i
    ·rw [decide_eq_true c1]
     refine aO ⟨_, rfl, a, _, 1, y, rfl, rfl, SqT.of (s1 _ _ ha), ak (j := 1) rfl, y, d1, rfl, R1.mono s1, z1, fun H2 s2 => ?_⟩
     refine qe _ H2 (s1.trans s2) ?_
     show (cf (.int i) && (geD 0 (.int i) && gJ d1)) = _
     rw [c0, e, decide_eq_true c1]
     rfl
    ·rw [decide_eq_false c1]
     refine aM (qe _ H1 s1 ?_)
     show (cf (.int i) && (geD 0 (.int i) && gJ d1)) = _
     rw [c0, e, decide_eq_false c1]
     rfl
  ·have hn : ¬ (V.int ((vs.length : Nat) : Int) = V.int 2) := fun e => kr no (by injection e with e; omega)
   rw [decide_eq_false hn]
   refine aO ?_
   have := q H (ao.refl H)
   rwa [tY no] at this
 | _ => exact aO (aO (q H (ao.refl H)))
end
section
variable {P : Program} {w : World} {K : PySem.W.Frag} {mg : Str -> Option Value} {base : Heap}
theorem iT {d : Dv} (h : eT d = true) : ∃ nm b, d = .tup [.str nm, .int b] /\ headD d = nm /\ nmB nm = true /\ 1 <= b := by
 match d, h with
 | .tup [a, b], h =>
  simp only [eT, Bool.and_eq_true] at h
  obtain ⟨h1, h2, h3⟩ := h
  cases a with
  | str x =>
   cases b with
   | int i => exact ⟨x, i, rfl, rfl, h1, of_decide_eq_true h3⟩
   | _ => cases h2
  | _ => cases h1
theorem gf : aH ["thing", "last", "part"] ["thing"] (ai cv) := ⟨rfl, rfl, rfl, by decide +kernel, rfl, by decide +kernel, by decide +kernel⟩
theorem kx {f : Addr} {fd : FuncData} {k : Nat} (F : Fun K "are_parts" "are_parts" cv f fd) (T : Txt K mg) (Dis_part : Def P w K mg base k "is_part" ["thing"] (spS eT)) :
  bi P w K mg base CX0 (k + 1) f fd ["thing"] (spS gJ) := by
 have nd : (["thing", "last", "part"] : List Str).Nodup := gf.nd
 refine F.ok gf (fun vs H Q E h => ?_) (fun cdv A outer s H vs Q E hr h => ?_)
 ·obtain ⟨v, d, rfl, _⟩ := h
  rfl
 obtain ⟨v, d, rfl, R, hsm, q⟩ := h
 refine ⟨_, (@ae _ _ _ _ _ (@aN _ _ _ _ _ _ _ _ (@bM _ _ _ _ (@bF _ _ _ (@ax _ _ _ _ _ _ _ _ _ bB rfl T.isinstance (by decide +kernel) (@aa _ _ _ _ _ (@pv _ 0 _ _ (by rfl) (by trivial) (by decide) (by decide)) (@aa _ _ _ _ _ (@bX _ _ (.ty "tuple") _ _ rfl T.tuple (by decide +kernel) rfl (by decide) (by decide)) (@ab _) (by rfl)) (by rfl)) (by decide) (by decide) (by rfl) (by rfl)) (by intro _; rfl))) (@ah _ _ _ (@ar _ _ _ _ (@bN _ _ _ _))) (@av _)) (@ae _ _ _ _ _ (@aJ _ _ (1) _ _ _ _ nd rfl (Or.inl rfl) (@aD _ _ _ _) (by rfl) (by trivial)) (@ae _ _ _ _ _ (@cB _ _ _ _ _ _ _ _ PassesOwn.never rfl (@eW _ _ _ _ (@pv _ 0 _ _ (by rfl) (by trivial) (by decide) (by decide))) (@aK _ _ (2) _ nd rfl (Or.inl rfl) (by trivial)) (@ae _ _ _ _ _ (@aN _ _ _ _ _ _ _ _ (@PW.pt _ _ _ (@cD _ _ _ _ _ _ _ (@bM _ _ _ _ (@bF _ _ _ (@au _ _ _ _ _ _ _ _ _ _ Dis_part hr rfl (@aa _ _ _ _ _ (@pv _ 2 _ _ (by rfl) (by trivial) (by decide) (by decide)) (@ab _) (by rfl)) (by decide) (by rfl) (by rfl)) (by intro _; rfl))) (@cj _ _ _ _ (@ap _ _ _ _ _ _ _ _ gr (@ay _ _ _ _ _ _ _ aB (@pv _ 2 _ _ (by rfl) (by trivial) (by decide) (by decide)) (@ac _ _ _ _) (fun _ _ => rfl)) (@pv _ 1 _ _ (by rfl) (by trivial) (by decide) (by decide)) (aq _))))) (@ah _ _ _ (@ar _ _ _ _ (@bN _ _ _ _))) (@av _)) (@ah _ _ _ (@aJ _ _ (1) _ _ _ _ nd rfl (Or.inl rfl) (@ay _ _ _ _ _ _ _ aB (@pv _ 2 _ _ (by rfl) (by trivial) (by decide) (by decide)) (@ac _ _ _ _) (fun _ _ => rfl)) (by rfl) (by trivial)))) (by intro _; rfl)) (@ah _ _ _ (@ar _ _ _ _ (@bN _ _ _ _)))))), ?_⟩
 refine ⟨_, rfl, v, _, _, _, rfl, R.ty, dh K d, _, rfl, ?_⟩
 cases d with
 | tup ds =>
  obtain ⟨a, vs, rfl, ha, rs⟩ := Rep.tup_inv R
  have hl := rs.length
  have hds : bb ds = true := by
   simp only [Dv.small, Bool.and_eq_true] at hsm
   exact hsm.1
  refine aM ?_
  refine ⟨_, rfl, a, rfl, ⟨vs, SqT.of ha⟩, pd (xs := vs) (fun i σ H' => ∃ (last : Str) (pv : Option V), σ = [some (.ref a), some (.str last), pv] /\ ao H H' /\ goD last (ds.drop i) = goD "" ds)
   ⟨"", none, rfl, ao.refl H, rfl⟩ (fun i σ H' _ ⟨_, _, _, s1, _⟩ => SqT.of (s1 _ _ ha)) ?_ ?_⟩
  ·rintro i x σ H1 hi ⟨last, pv, rfl, s1, hg⟩
   obtain ⟨d, hd, Rd⟩ := rs.get hi
   have hdi : ds.drop i = d :: ds.drop (i + 1) := by
    obtain ⟨h1, h2⟩ := List.getElem?_eq_some_iff.mp hd
    rw [List.drop_eq_getElem_cons h1, h2]
   have hsd := dB hds hd
   rw [hdi] at hg
   refine ⟨_, rfl, x, d, rfl, Rd.mono s1, hsd, fun H2 s2 => ⟨_, rfl, ?_⟩⟩
   have no : goD last (d :: ds.drop (i + 1)) = false -> ∀ H', ao H H' -> Q (.bl false) H' := fun e H' s' => by
    have := q H' s'
    rwa [show gJ (.tup ds) = false by show goD "" ds = false; rw [<- hg, e]] at this
   cases c : eT d with
   | false =>
    refine aO (aO (no ?_ H2 (s1.trans s2)))
    simp only [goD, c, Bool.false_and]
   | true =>
    obtain ⟨nm, b, rfl, hh, _⟩ := iT c
    obtain ⟨p, us, rfl, hp, ru⟩ := Rep.tup_inv Rd
    obtain ⟨y, z, rfl, R0, R1⟩ := aj.two ru
    obtain rfl : y = .str nm := R0
    have hp2 : H2 p = some (.tup [.str nm, z]) := s2 _ _ (s1 _ _ hp)
    refine aM ⟨_, rfl, p, _, 0, .str nm, rfl, rfl, SqT.of hp2, ak (j := 0) rfl, _, rfl, _, _, rfl, rfl, _, rfl, ?_⟩
    by_cases lt : last.cps.toList < nm.cps.toList
    ·rw [decide_eq_true lt]
     refine aM ⟨_, rfl, p, _, 0, .str nm, rfl, rfl, SqT.of hp2, ak (j := 0) rfl, nm, _, rfl, s1.trans s2, ?_⟩
     rw [<- hg]
     simp only [goD, c, hh, Bool.true_and]
     rw [decide_eq_true lt, Bool.true_and]
    ·rw [decide_eq_false lt]
     refine aO (no ?_ H2 (s1.trans s2))
     simp only [goD, c, hh, Bool.true_and]
     rw [decide_eq_false lt, Bool.false_and]
  ·rintro σ H1 ⟨last, pv, rfl, s1, hg⟩
   have := q H1 s1
   rw [show gJ (.tup ds) = true by
    show goD "" ds = true
    rw [<- hg, hl, List.drop_length]
    rfl] at this
   exact this
 | _ => exact aO (q H (ao.refl H))
end
abbrev cP : Stmt := top 16
abbrev cH : Stmt := top 17
abbrev cJ : Stmt := top 18
abbrev bD : Stmt := top 19
def fG : Dv -> Int
 | .tup [_, .int n] => n
 | _ => 0
def yg : Dv -> Int
 | .tup (.int c :: _) => c
 | _ => 0
def uh : Dv -> List Dv
 | .tup [_, .tup ps] => ps
 | _ => []
def slD (d : Dv) : Bool := ko d && (decide (yg d <= 99) && (uh d).all fun p => decide (fG p <= 99))
def eI : Dv -> Bool
 | .tup (.str _ :: _) => true
 | _ => false
def cT : Dv -> Bool
 | .tup [.str x] => decide (x = "whole")
 | .tup [.str x, l] => decide (x = "place") && slD l
 | .tup [.str x, a, _] => (decide (x = "row") && slD a) || decide (x = "pair")
 | _ => false
def kids {α : Type} (x : Str) (r : List α) : List α := if x = "row" then r.drop 1 else if x = "pair" then r else []
theorem qS {d : Dv} (h : ko d = true) : ∃ c ps, d = .tup [.int c, .tup ps] /\ 0 <= c /\ goD "" ps = true := by
 match d, h with
 | .tup [a, b], h =>
  simp only [ko, Bool.and_eq_true] at h
  obtain ⟨h1, h2, h3⟩ := h
  cases a with
  | int i =>
   cases b with
   | tup ps => exact ⟨i, ps, rfl, of_decide_eq_true h2, h3⟩
   | _ => cases h3
  | _ => cases h1
theorem lO : ∀ {l : Str} {ps : List Dv}, goD l ps = true -> ∀ p ∈ ps, eT p = true
 | _, [], _, p, hp => by cases hp
 | l, x :: ps, h, p, hp => by
  simp only [goD, Bool.and_eq_true] at h
  rcases List.mem_cons.mp hp with rfl | hp
  ·exact h.1
  ·exact lO h.2.2 p hp
def sn : Sp := fun vs H Q _ => ∃ (a : Addr) (x : Str) (us : List V), vs = [.ref a] /\ H a = some (.tup (.str x :: us)) /\ (x = "row" -> us.length = 2) /\ (x = "pair" -> us.length = 2) /\ ∀ (l : Addr), H l = none -> Q (.ref l) (upd H l (.lst (kids x us)))
theorem bO (x y : Str) : decide (V.str x = V.str y) = decide (x = y) := by
 by_cases h : x = y
 ·rw [decide_eq_true h, decide_eq_true (by rw [h])]
 ·rw [decide_eq_false h, decide_eq_false (fun z => h (by injection z))]
section
variable {P : Program} {w : World} {K : PySem.W.Frag} {mg : Str -> Option Value} {base : Heap}
theorem lg : aH ["thing"] ["thing"] (ai cP) := ⟨rfl, rfl, rfl, by decide +kernel, rfl, by decide +kernel, by decide +kernel⟩
theorem mh {f : Addr} {fd : FuncData} {k : Nat} (F : Fun K "is_small_length" "is_small_length" cP f fd) (T : Txt K mg) (Dis_length : Def P w K mg base k "is_length" ["thing"] (spS ko)) :
  bi P w K mg base CX0 (k + 1) f fd ["thing"] (spS slD) := by
 refine F.ok lg (fun vs H Q E h => ?_) (fun cdv A outer s H vs Q E hr h => ?_)
 ·obtain ⟨v, d, rfl, _⟩ := h
  rfl
 obtain ⟨v, d, rfl, R, hsm, q⟩ := h
 refine ⟨_, (@ae _ _ _ _ _ (@aN _ _ _ _ _ _ _ _ (@PW.pt _ _ _ (@cD _ _ _ _ _ _ _ (@bM _ _ _ _ (@bF _ _ _ (@au _ _ _ _ _ _ _ _ _ _ Dis_length hr rfl (@aa _ _ _ _ _ (@pv _ 0 _ _ (by rfl) (by trivial) (by decide) (by decide)) (@ab _) (by rfl)) (by decide) (by rfl) (by rfl)) (by intro _; rfl))) (@cj _ _ _ _ (@ap _ _ _ _ _ _ _ _ gH (@ay _ _ _ _ _ _ _ aB (@pv _ 0 _ _ (by rfl) (by trivial) (by decide) (by decide)) (@ac _ _ _ _) (fun _ _ => rfl)) (T.g_GREATEST_NUMBER rfl) (aq _))))) (@ah _ _ _ (@ar _ _ _ _ (@bN _ _ _ _))) (@av _)) (@ah _ _ _ (@ar _ _ _ _ (@ax _ _ _ _ _ _ _ _ _ (gj rfl) rfl T.all (by decide +kernel) (@aa _ _ _ _ _ (@ga _ _ (["name", "times"]) ([]) _ _ _ _ _ _ _ _ _ (@eW _ _ _ _ (@ay _ _ _ _ _ _ _ aB (@pv _ 0 _ _ (by rfl) (by trivial) (by decide) (by decide)) (@ac _ _ _ _) (fun _ _ => rfl))) (.of rfl) rfl (fun _ _ _ => cW rfl (@aT _ _ _ _ _ (@aK _ _ (0) _ (dG (l := ["name", "times"]) ((by decide +kernel)) rfl) rfl (Or.inl rfl) (by trivial)) (@aT _ _ _ _ _ (@aK _ _ (1) _ (dG (l := ["name", "times"]) ((by decide +kernel)) rfl) rfl (Or.inl rfl) (by trivial)) (@cc _) (by rfl)) (by rfl))) (ou (by decide) (by decide)) (fun _ _ _ => (@cx _)) (fun _ _ _ => (@bd _ _ _ _ _ _ _ _ jo (@pv _ 1 _ _ (by rfl) (by trivial) (by decide) (by decide)) (T.g_GREATEST_NUMBER rfl) (aq _))) (by intro _; rfl)) (@ab _) (by rfl)) (by decide) (by decide) (by rfl) (by rfl))))), ?_⟩
 refine ⟨_, rfl, v, d, rfl, R, hsm, fun H1 s1 => ⟨_, rfl, ?_⟩⟩
 cases c0 : ko d with
 | false =>
  refine aO ?_
  have := q H1 s1
  rwa [show slD d = false by unfold slD; rw [c0]; rfl] at this
 | true =>
  refine aM ?_
  obtain ⟨c, ps, rfl, hc, hg⟩ := qS c0
  obtain ⟨a, vs, rfl, ha, rs⟩ := Rep.tup_inv R
  obtain ⟨x, y, rfl, R0, R1⟩ := aj.two rs
  obtain rfl : x = .int c := R0
  obtain ⟨b, us, rfl, hb, ru⟩ := Rep.tup_inv R1
  have hps : ps.length <= 1000 := by
   have := (jW hsm).2
   simp only [Dv.small, Bool.and_eq_true, decide_eq_true_eq] at this
   exact this.2
  have hl := ru.length
  have e0 : slD (.tup [.int c, .tup ps]) = (decide (c <= 99) && ps.all fun p => decide (fG p <= 99)) := by
   unfold slD; rw [c0]; rfl
  refine ⟨_, rfl, a, _, 0, .int c, rfl, rfl, SqT.of (s1 _ _ ha), ak (j := 0) rfl, _, _, rfl, rfl, _, rfl, ?_⟩
  refine bn (fun h => ?_) (fun h => ?_)
  ·have h' : 99 < c := of_decide_eq_true h
   have := q H1 s1
   rw [e0, decide_eq_false (by omega), Bool.false_and] at this
   exact this
  have h' : c <= 99 := by have := of_decide_eq_false (Bool.eq_false_iff.mpr h); omega
  have hb1 := s1 _ _ hb
  refine ⟨_, rfl, a, _, 1, .ref b, rfl, rfl, SqT.of (s1 _ _ ha), ak (j := 1) rfl, b, rfl, ⟨us, SqT.of hb1⟩, gp (xs := us) (fun i ys H' => H' = H1 /\ ys = (ps.take i).map fun p => V.bl (decide (fG p <= 99))) ⟨rfl, rfl⟩ (fun i ys H' _ p => by rw [p.1]; exact SqT.of hb1) ?_ ?_⟩
  ·rintro i ys H' x hx ⟨rfl, rfl⟩
   obtain ⟨d, hd, Rd⟩ := ru.get hx
   obtain ⟨hi, ed⟩ := List.getElem?_eq_some_iff.mp hd
   obtain ⟨nm, t, rfl, hh, _⟩ := iT (lO hg d (List.mem_of_getElem? hd))
   obtain ⟨p, zs, rfl, hp, rz⟩ := Rep.tup_inv Rd
   obtain ⟨y, z, rfl, Ry, Rz⟩ := aj.two rz
   obtain rfl : y = .str nm := Ry
   obtain rfl : z = .int t := Rz
   refine iq (s1 _ _ hp) ⟨_, rfl, _, _, rfl, rfl, ?_, rfl, ?_⟩
   ·rw [List.length_map, List.length_take, sizeLine_eq]; omega
   ·rw [List.take_add_one, hd, List.map_append]
    rfl
  ·rintro ys H' ⟨rfl, rfl⟩ r hr'
   rw [hl, List.take_length]
   refine ⟨r, ps.map fun p => decide (fG p <= 99), rfl, SqL.of (by rw [ad, List.map_map]; rfl), ?_⟩
   have := q _ (s1.trans (af hr' (.lst (ps.map fun p => V.bl (decide (fG p <= 99))))))
   rw [e0, decide_eq_true h', Bool.true_and] at this
   rw [List.all_map]
   exact this
theorem lH : aH ["thing"] ["thing"] (ai cH) := ⟨rfl, rfl, rfl, by decide +kernel, rfl, by decide +kernel, by decide +kernel⟩
theorem ll {f : Addr} {fd : FuncData} (F : Fun K "has_word" "has_word" cH f fd) (T : Txt K mg) : bi P w K mg base CX0 1 f fd ["thing"] (spD eI) := by
 refine F.ok lH (fun vs H Q E h => ?_) (fun cdv A outer s H vs Q E hr h => ?_)
 ·obtain ⟨v, d, rfl, _⟩ := h
  rfl
 obtain ⟨v, d, rfl, R, q⟩ := h
 refine ⟨_, (@ah _ _ _ (@ar _ _ _ _ (@bm _ _ _ _ _ _ _ (@ax _ _ _ _ _ _ _ _ _ bB rfl T.isinstance (by decide +kernel) (@aa _ _ _ _ _ (@pv _ 0 _ _ (by rfl) (by trivial) (by decide) (by decide)) (@aa _ _ _ _ _ (@bX _ _ (.ty "tuple") _ _ rfl T.tuple (by decide +kernel) rfl (by decide) (by decide)) (@ab _) (by rfl)) (by rfl)) (by decide) (by decide) (by rfl) (by rfl)) (@bm _ _ _ _ _ _ _ (@bd _ _ _ _ _ _ _ _ gH (@ax _ _ _ _ _ _ _ _ _ aI rfl T.len (by decide +kernel) (@aa _ _ _ _ _ (@pv _ 0 _ _ (by rfl) (by trivial) (by decide) (by decide)) (@ab _) (by rfl)) (by decide) (by decide) (by rfl) (by rfl)) (@ac _ _ _ _) (aq _)) (@bH _ _ _ _ _ (@ax _ _ _ _ _ _ _ _ _ bB rfl T.isinstance (by decide +kernel) (@aa _ _ _ _ _ (@ay _ _ _ _ _ _ _ aB (@pv _ 0 _ _ (by rfl) (by trivial) (by decide) (by decide)) (@ac _ _ _ _) (fun _ _ => rfl)) (@aa _ _ _ _ _ (@bX _ _ (.ty "str") _ _ rfl T.str (by decide +kernel) rfl (by decide) (by decide)) (@ab _) (by rfl)) (by rfl)) (by decide) (by decide) (by rfl) (by rfl))))))), ?_⟩
 refine ⟨_, rfl, v, _, _, _, rfl, R.ty, dh K d, _, rfl, ?_⟩
 cases d with
 | tup ds =>
  obtain ⟨a, vs, rfl, ha, rs⟩ := Rep.tup_inv R
  refine aO ⟨_, rfl, a, vs, rfl, .inr (SqT.of ha), _, _, rfl, rfl, _, rfl, ?_⟩
  cases ds with
  | nil =>
   simp only [aj] at rs
   subst rs
   exact aM (q H (ao.refl H))
  | cons d0 ds =>
   simp only [aj] at rs
   obtain ⟨x, r, rfl, R0, rr⟩ := rs
   rw [show decide (((0 : Int)) < (((x :: r).length : Nat) : Int)) = true from decide_eq_true (by rw [List.length_cons]; omega)]
   refine aO ⟨_, rfl, a, _, 0, x, rfl, rfl, SqT.of ha, ak (j := 0) rfl, x, _, _, _, rfl, R0.ty, jR K d0, ?_⟩
   have := q H (ao.refl H)
   cases d0 <;> exact this
 | _ => exact aM (q H (ao.refl H))
end
section
variable {P : Program} {w : World} {K : PySem.W.Frag} {mg : Str -> Option Value} {base : Heap}
theorem fE {d : Dv} (h : eI d = true) : ∃ x r, d = .tup (.str x :: r) := by
 match d, h with
 | .tup (.str x :: r), _ => exact ⟨x, r, rfl⟩
theorem nM {d : Dv} (h : eI d = false) : cT d = false := by
 match d, h with
 | .tup [.str x], h => cases h
 | .tup [.str x, l], h => cases h
 | .tup [.str x, a, b], h => cases h
 | .tup (.str x :: a :: b :: c :: r), h => cases h
 | .tup [], _ => rfl
 | .tup (.non :: r), _ => rfl
 | .tup (.bl _ :: r), _ => rfl
 | .tup (.int _ :: r), _ => rfl
 | .tup (.tup _ :: r), _ => rfl
 | .tup (.lst _ :: r), _ => rfl
 | .tup (.dct :: r), _ => rfl
 | .non, _ => rfl
 | .bl _, _ => rfl
 | .int _, _ => rfl
 | .str _, _ => rfl
 | .lst _, _ => rfl
 | .dct, _ => rfl
theorem w1 : (Str.ofString "whole") ≠ (Str.ofString "place") := by decide +kernel
theorem w2 : (Str.ofString "whole") ≠ (Str.ofString "row") := by decide +kernel
theorem w3 : (Str.ofString "whole") ≠ (Str.ofString "pair") := by decide +kernel
theorem w4 : (Str.ofString "place") ≠ (Str.ofString "row") := by decide +kernel
theorem w5 : (Str.ofString "place") ≠ (Str.ofString "pair") := by decide +kernel
theorem w6 : (Str.ofString "row") ≠ (Str.ofString "pair") := by decide +kernel
theorem uC {r : List Dv} : cT (.tup (.str "whole" :: r)) = decide (r.length = 0) := by
 match r with
 | [] => show decide (Str.ofString "whole" = Str.ofString "whole") = _; rw [decide_eq_true rfl]; rfl
 | [l] => show (decide (Str.ofString "whole" = Str.ofString "place") && slD l) = _; rw [decide_eq_false w1]; rfl
 | [a, b] => show ((decide (Str.ofString "whole" = Str.ofString "row") && slD a) || decide (Str.ofString "whole" = Str.ofString "pair")) = _; rw [decide_eq_false w2, decide_eq_false w3]; rfl
 | a :: b :: c :: r => rfl
theorem pb {r : List Dv} : cT (.tup (.str "place" :: r)) = (decide (r.length = 1) && slD (r.headD .non)) := by
 match r with
 | [] => show decide (Str.ofString "place" = Str.ofString "whole") = _; rw [decide_eq_false (Ne.symm w1)]; rfl
 | [l] => show (decide (Str.ofString "place" = Str.ofString "place") && slD l) = _; rw [decide_eq_true rfl]; rfl
 | [a, b] => show ((decide (Str.ofString "place" = Str.ofString "row") && slD a) || decide (Str.ofString "place" = Str.ofString "pair")) = _; rw [decide_eq_false w4, decide_eq_false w5]; rfl
 | a :: b :: c :: r =>
  rw [decide_eq_false (by simp)]; rfl
theorem vk {r : List Dv} : cT (.tup (.str "row" :: r)) = (decide (r.length = 2) && slD (r.headD .non)) := by
 match r with
 | [] => show decide (Str.ofString "row" = Str.ofString "whole") = _; rw [decide_eq_false (Ne.symm w2)]; rfl
 | [l] => show (decide (Str.ofString "row" = Str.ofString "place") && slD l) = _; rw [decide_eq_false (Ne.symm w4)]; rfl
 | [a, b] => show ((decide (Str.ofString "row" = Str.ofString "row") && slD a) || decide (Str.ofString "row" = Str.ofString "pair")) = _; rw [decide_eq_true rfl, decide_eq_false w6, Bool.or_false]; rfl
 | a :: b :: c :: r =>
  rw [decide_eq_false (by simp)]; rfl
theorem vV {x : Str} {r : List Dv} (h1 : x ≠ "whole") (h2 : x ≠ "place") (h3 : x ≠ "row") : cT (.tup (.str x :: r)) = (decide (r.length = 2) && decide (x = "pair")) := by
 match r with
 | [] => show decide (x = "whole") = _; rw [decide_eq_false h1]; rfl
 | [l] => show (decide (x = "place") && slD l) = _; rw [decide_eq_false h2]; rfl
 | [a, b] => show ((decide (x = "row") && slD a) || decide (x = "pair")) = _; rw [decide_eq_false h3, Bool.false_and, Bool.false_or]; rfl
 | a :: b :: c :: r =>
  rw [decide_eq_false (by simp)]; rfl
theorem fh {vs : List V} {r : List Dv} {x : V} (h : vs.length = r.length) (n m : Nat) (e : m = n + 1) : decide (V.int (((x :: vs).length : Nat) : Int) = V.int (m : Int)) = decide (r.length = n) := by
 by_cases z : r.length = n
 ·rw [decide_eq_true z, decide_eq_true (by rw [List.length_cons, h, z, e])]
 ·rw [decide_eq_false z, decide_eq_false (fun y => z (by injection y with y; rw [List.length_cons, h] at y; omega))]
theorem lB : aH ["thing"] ["thing"] (ai cJ) := ⟨rfl, rfl, rfl, by decide +kernel, rfl, by decide +kernel, by decide +kernel⟩
theorem mO {f : Addr} {fd : FuncData} {k : Nat} (F : Fun K "is_point" "is_point" cJ f fd) (T : Txt K mg) (Dhas_word : Def P w K mg base k "has_word" ["thing"] (spD eI)) (Dis_small_length : Def P w K mg base k "is_small_length" ["thing"] (spS slD)) :
  bi P w K mg base CX0 (k + 1) f fd ["thing"] (spS cT) := by
 refine F.ok lB (fun vs H Q E h => ?_) (fun cdv A outer s H vs Q E hr h => ?_)
 ·obtain ⟨v, d, rfl, _⟩ := h
  rfl
 obtain ⟨v, d, rfl, R, hsm, q⟩ := h
 refine ⟨_, (@ae _ _ _ _ _ (@aN _ _ _ _ _ _ _ _ (@bM _ _ _ _ (@bF _ _ _ (@au _ _ _ _ _ _ _ _ _ _ Dhas_word hr rfl (@aa _ _ _ _ _ (@pv _ 0 _ _ (by rfl) (by trivial) (by decide) (by decide)) (@ab _) (by rfl)) (by decide) (by rfl) (by rfl)) (by intro _; rfl))) (@ah _ _ _ (@ar _ _ _ _ (@bN _ _ _ _))) (@av _)) (@ae _ _ _ _ _ (@aN _ _ _ _ _ _ _ _ (@ap _ _ _ _ _ _ _ _ aU (@ay _ _ _ _ _ _ _ aB (@pv _ 0 _ _ (by rfl) (by trivial) (by decide) (by decide)) (@ac _ _ _ _) (fun _ _ => rfl)) (@aD _ _ _ _) (aq _)) (@ah _ _ _ (@ar _ _ _ _ (@bd _ _ _ _ _ _ _ _ aU (@ax _ _ _ _ _ _ _ _ _ aI rfl T.len (by decide +kernel) (@aa _ _ _ _ _ (@pv _ 0 _ _ (by rfl) (by trivial) (by decide) (by decide)) (@ab _) (by rfl)) (by decide) (by decide) (by rfl) (by rfl)) (@ac _ _ _ _) (aq _)))) (@av _)) (@ae _ _ _ _ _ (@aN _ _ _ _ _ _ _ _ (@ap _ _ _ _ _ _ _ _ aU (@ay _ _ _ _ _ _ _ aB (@pv _ 0 _ _ (by rfl) (by trivial) (by decide) (by decide)) (@ac _ _ _ _) (fun _ _ => rfl)) (@aD _ _ _ _) (aq _)) (@ah _ _ _ (@ar _ _ _ _ (@bm _ _ _ _ _ _ _ (@bd _ _ _ _ _ _ _ _ aU (@ax _ _ _ _ _ _ _ _ _ aI rfl T.len (by decide +kernel) (@aa _ _ _ _ _ (@pv _ 0 _ _ (by rfl) (by trivial) (by decide) (by decide)) (@ab _) (by rfl)) (by decide) (by decide) (by rfl) (by rfl)) (@ac _ _ _ _) (aq _)) (@bH _ _ _ _ _ (@au _ _ _ _ _ _ _ _ _ _ Dis_small_length hr rfl (@aa _ _ _ _ _ (@ay _ _ _ _ _ _ _ aB (@pv _ 0 _ _ (by rfl) (by trivial) (by decide) (by decide)) (@ac _ _ _ _) (fun _ _ => rfl)) (@ab _) (by rfl)) (by decide) (by rfl) (by rfl)))))) (@av _)) (@ae _ _ _ _ _ (@aN _ _ _ _ _ _ _ _ (@ap _ _ _ _ _ _ _ _ aU (@ay _ _ _ _ _ _ _ aB (@pv _ 0 _ _ (by rfl) (by trivial) (by decide) (by decide)) (@ac _ _ _ _) (fun _ _ => rfl)) (@aD _ _ _ _) (aq _)) (@ah _ _ _ (@ar _ _ _ _ (@bm _ _ _ _ _ _ _ (@bd _ _ _ _ _ _ _ _ aU (@ax _ _ _ _ _ _ _ _ _ aI rfl T.len (by decide +kernel) (@aa _ _ _ _ _ (@pv _ 0 _ _ (by rfl) (by trivial) (by decide) (by decide)) (@ab _) (by rfl)) (by decide) (by decide) (by rfl) (by rfl)) (@ac _ _ _ _) (aq _)) (@bH _ _ _ _ _ (@au _ _ _ _ _ _ _ _ _ _ Dis_small_length hr rfl (@aa _ _ _ _ _ (@ay _ _ _ _ _ _ _ aB (@pv _ 0 _ _ (by rfl) (by trivial) (by decide) (by decide)) (@ac _ _ _ _) (fun _ _ => rfl)) (@ab _) (by rfl)) (by decide) (by rfl) (by rfl)))))) (@av _)) (@ah _ _ _ (@ar _ _ _ _ (@bm _ _ _ _ _ _ _ (@bd _ _ _ _ _ _ _ _ aU (@ax _ _ _ _ _ _ _ _ _ aI rfl T.len (by decide +kernel) (@aa _ _ _ _ _ (@pv _ 0 _ _ (by rfl) (by trivial) (by decide) (by decide)) (@ab _) (by rfl)) (by decide) (by decide) (by rfl) (by rfl)) (@ac _ _ _ _) (aq _)) (@bH _ _ _ _ _ (@bd _ _ _ _ _ _ _ _ aU (@ay _ _ _ _ _ _ _ aB (@pv _ 0 _ _ (by rfl) (by trivial) (by decide) (by decide)) (@ac _ _ _ _) (fun _ _ => rfl)) (@aD _ _ _ _) (aq _)))))))))), ?_⟩
 refine ⟨_, rfl, v, d, rfl, R, fun H1 s1 => ⟨_, rfl, ?_⟩⟩
 cases c0 : eI d with
 | false =>
  refine aO ?_
  have := q H1 s1
  rwa [nM c0] at this
 | true =>
  refine aM ?_
  obtain ⟨x, r, rfl⟩ := fE c0
  obtain ⟨a, vs, rfl, ha, rs⟩ := Rep.tup_inv (R.mono s1)
  simp only [aj] at rs
  obtain ⟨y, us, rfl, R0, ru⟩ := rs
  obtain rfl : y = .str x := R0
  have hl := ru.length
  refine ⟨_, rfl, a, _, 0, .str x, rfl, rfl, SqT.of ha, ak (j := 0) rfl, rfl, _, rfl, ?_⟩
  show if decide (V.str x = V.str "whole") = true then _ else _
  rw [bO]
  by_cases h1 : x = "whole"
  ·subst h1
   rw [decide_eq_true rfl]
   refine aO ⟨_, rfl, a, _, rfl, .inr (SqT.of ha), rfl, ?_⟩
   have := q H1 s1
   rw [uC, <- fh (x := .str "whole") hl 0 1 rfl] at this
   exact this
  rw [decide_eq_false h1]
  refine aM ⟨_, rfl, a, _, 0, .str x, rfl, rfl, SqT.of ha, ak (j := 0) rfl, rfl, _, rfl, ?_⟩
  show if decide (V.str x = V.str "place") = true then _ else _
  rw [bO]
  by_cases h2 : x = "place"
  ·subst h2
   rw [decide_eq_true rfl]
   refine aO ⟨_, rfl, a, _, rfl, .inr (SqT.of ha), rfl, _, rfl, ?_⟩
   show if decide (V.int _ = V.int ((2 : Nat) : Int)) = true then _ else _
   rw [fh (x := .str "place") hl 1 2 rfl]
   by_cases z : r.length = 1
   ·rw [decide_eq_true z]
    match r, us, z, ru with
    | [l], us, _, ru =>
     simp only [aj] at ru
     obtain ⟨u, rest, rfl, Ru, rfl⟩ := ru
     refine aO ⟨_, rfl, a, _, 1, u, rfl, rfl, SqT.of ha, ak (j := 1) rfl, u, l, rfl, Ru, dB (i := 1) (ds := [.str "place", l]) (by simp only [Dv.small, Bool.and_eq_true] at hsm; exact hsm.1) rfl, fun H2 s2 => ?_⟩
     have := q H2 (s1.trans s2)
     rw [pb] at this
     exact this
   ·rw [decide_eq_false z]
    refine aM ?_
    have := q H1 s1
    rw [pb, decide_eq_false z] at this
    exact this
  rw [decide_eq_false h2]
  refine aM ⟨_, rfl, a, _, 0, .str x, rfl, rfl, SqT.of ha, ak (j := 0) rfl, rfl, _, rfl, ?_⟩
  show if decide (V.str x = V.str "row") = true then _ else _
  rw [bO]
  by_cases h3 : x = "row"
  ·subst h3
   rw [decide_eq_true rfl]
   refine aO ⟨_, rfl, a, _, rfl, .inr (SqT.of ha), rfl, _, rfl, ?_⟩
   show if decide (V.int _ = V.int ((3 : Nat) : Int)) = true then _ else _
   rw [fh (x := .str "row") hl 2 3 rfl]
   by_cases z : r.length = 2
   ·rw [decide_eq_true z]
    match r, us, z, ru with
    | [l, m], us, _, ru =>
     obtain ⟨u, u', rfl, Ru, Ru'⟩ := aj.two ru
     refine aO ⟨_, rfl, a, _, 1, u, rfl, rfl, SqT.of ha, ak (j := 1) rfl, u, l, rfl, Ru, dB (i := 1) (ds := [.str "row", l, m]) (by simp only [Dv.small, Bool.and_eq_true] at hsm; exact hsm.1) rfl, fun H2 s2 => ?_⟩
     have := q H2 (s1.trans s2)
     rw [vk] at this
     exact this
   ·rw [decide_eq_false z]
    refine aM ?_
    have := q H1 s1
    rw [vk, decide_eq_false z] at this
    exact this
  rw [decide_eq_false h3]
  refine aM ⟨_, rfl, a, _, rfl, .inr (SqT.of ha), rfl, _, rfl, ?_⟩
  show if decide (V.int _ = V.int ((3 : Nat) : Int)) = true then _ else _
  rw [fh (x := .str x) hl 2 3 rfl]
  have qq := q H1 s1
  rw [vV h1 h2 h3] at qq
  by_cases z : r.length = 2
  ·rw [decide_eq_true z] at qq ⊢
   refine aO ⟨_, rfl, a, _, 0, .str x, rfl, rfl, SqT.of ha, ak (j := 0) rfl, rfl, ?_⟩
   rw [Bool.true_and, <- bO] at qq
   exact qq
  ·rw [decide_eq_false z] at qq ⊢
   exact aM qq
theorem nk : aH ["point"] ["point"] (ai bD) := ⟨rfl, rfl, rfl, by decide +kernel, rfl, by decide +kernel, by decide +kernel⟩
theorem np {f : Addr} {fd : FuncData} (F : Fun K "things_of" "things_of" bD f fd) (T : Txt K mg) : bi P w K mg base CX0 1 f fd ["point"] sn := by
 refine F.ok nk (fun vs H Q E h => ?_) (fun cdv A outer s H vs Q E hr h => ?_)
 ·obtain ⟨a, x, us, rfl, _⟩ := h
  rfl
 obtain ⟨a, x, us, rfl, ha, hr2, hp2, q⟩ := h
 refine ⟨_, (@ae _ _ _ _ _ (@aN _ _ _ _ _ _ _ _ (@ap _ _ _ _ _ _ _ _ aU (@ay _ _ _ _ _ _ _ aB (@pv _ 0 _ _ (by rfl) (by trivial) (by decide) (by decide)) (@ac _ _ _ _) (fun _ _ => rfl)) (@aD _ _ _ _) (aq _)) (@ah _ _ _ (@ar _ _ _ _ (@bp _ _ _ _ (@aa _ _ _ _ _ (@ay _ _ _ _ _ _ _ aB (@pv _ 0 _ _ (by rfl) (by trivial) (by decide) (by decide)) (@ac _ _ _ _) (fun _ _ => rfl)) (@ab _) (by rfl))))) (@av _)) (@ae _ _ _ _ _ (@aN _ _ _ _ _ _ _ _ (@ap _ _ _ _ _ _ _ _ aU (@ay _ _ _ _ _ _ _ aB (@pv _ 0 _ _ (by rfl) (by trivial) (by decide) (by decide)) (@ac _ _ _ _) (fun _ _ => rfl)) (@aD _ _ _ _) (aq _)) (@ah _ _ _ (@ar _ _ _ _ (@bp _ _ _ _ (@aa _ _ _ _ _ (@ay _ _ _ _ _ _ _ aB (@pv _ 0 _ _ (by rfl) (by trivial) (by decide) (by decide)) (@ac _ _ _ _) (fun _ _ => rfl)) (@aa _ _ _ _ _ (@ay _ _ _ _ _ _ _ aB (@pv _ 0 _ _ (by rfl) (by trivial) (by decide) (by decide)) (@ac _ _ _ _) (fun _ _ => rfl)) (@ab _) (by rfl)) (by rfl))))) (@av _)) (@ah _ _ _ (@ar _ _ _ _ (@bp _ _ _ _ (@ab _)))))), ?_⟩
 refine ⟨_, rfl, a, _, 0, .str x, rfl, rfl, SqT.of ha, ak (j := 0) rfl, rfl, _, rfl, ?_⟩
 show if decide (V.str x = V.str "row") = true then _ else _
 rw [bO]
 by_cases h1 : x = "row"
 ·subst h1
  have hl := hr2 rfl
  match us, hl with
  | [u, u'], _ =>
   rw [decide_eq_true rfl]
   refine aO ⟨_, rfl, a, _, 2, u', rfl, rfl, SqT.of ha, ak (j := 2) rfl, z1, fun l hl => q l hl⟩
 rw [decide_eq_false h1]
 refine aM ⟨_, rfl, a, _, 0, .str x, rfl, rfl, SqT.of ha, ak (j := 0) rfl, rfl, _, rfl, ?_⟩
 show if decide (V.str x = V.str "pair") = true then _ else _
 rw [bO]
 by_cases h2 : x = "pair"
 ·subst h2
  have hl := hp2 rfl
  match us, hl with
  | [u, u'], _ =>
   rw [decide_eq_true rfl]
   refine aO ⟨_, rfl, a, _, 1, u, rfl, rfl, SqT.of ha, ak (j := 1) rfl, _, rfl, a, _, 2, u', rfl, rfl, SqT.of ha, ak (j := 2) rfl, z2, fun l hl => ?_⟩
   have := q l hl
   rw [show kids (Str.ofString "pair") [u, u'] = [u, u'] by unfold kids; rw [if_neg (Ne.symm w6), if_pos rfl]] at this
   exact this
 rw [decide_eq_false h2]
 refine aM ⟨Nat.zero_le _, fun l hl => ?_⟩
 have := q l hl
 rw [show kids x us = [] by unfold kids; rw [if_neg h1, if_neg h2]] at this
 exact this
end
abbrev du : Stmt := top 21
def aR : Dv -> Nat
 | .tup [.str x] => if x = "whole" then 1 else 99
 | .tup [.str x, l] => if x = "place" /\ slD l = true then 1 else 99
 | .tup [.str x, a, b] => if x = "pair" then 1 + aR a + aR b else if x = "row" /\ slD a = true then 1 + aR b else 99
 | _ => 99
termination_by d => sizeOf d
decreasing_by all_goals simp_wf; omega
theorem oY {d : Dv} (h : cT d = false) : aR d = 99 := by
 match d, h with
 | .tup [.str x], h =>
  rw [aR, if_neg (of_decide_eq_false h)]
 | .tup [.str x, l], h =>
  rw [aR, if_neg (fun z => by
   have h' : (decide (x = "place") && slD l) = false := h
   rw [decide_eq_true z.1, z.2] at h'; cases h')]
 | .tup [.str x, a, b], h =>
  have h' : ((decide (x = "row") && slD a) || decide (x = "pair")) = false := h
  rw [Bool.or_eq_false_iff] at h'
  rw [aR, if_neg (of_decide_eq_false h'.2), if_neg (fun z => by
   have h2 := h'.1
   rw [decide_eq_true z.1, z.2] at h2; cases h2)]
 | .tup (.str x :: a :: b :: c :: r), _ => rw [aR] <;> simp
 | .tup [], _ => rw [aR] <;> simp
 | .tup (.non :: r), _ => rw [aR] <;> simp
 | .tup (.bl _ :: r), _ => rw [aR] <;> simp
 | .tup (.int _ :: r), _ => rw [aR] <;> simp
 | .tup (.tup _ :: r), _ => rw [aR] <;> simp
 | .tup (.lst _ :: r), _ => rw [aR] <;> simp
 | .tup (.dct :: r), _ => rw [aR] <;> simp
 | .non, _ => rw [aR] <;> simp
 | .bl _, _ => rw [aR] <;> simp
 | .int _, _ => rw [aR] <;> simp
 | .str _, _ => rw [aR] <;> simp
 | .lst _, _ => rw [aR] <;> simp
 | .dct, _ => rw [aR] <;> simp
theorem gN {d : Dv} (h : cT d = true) : ∃ x r, d = .tup (.str x :: r) /\ (x = "row" -> r.length = 2) /\ (x = "pair" -> r.length = 2) /\ aR d = 1 + ((kids x r).map aR).sum := by
 match d, h with
 | .tup [.str x], h =>
  have h' : x = "whole" := of_decide_eq_true h
  subst h'
  exact ⟨_, _, rfl, fun z => absurd z w2, fun z => absurd z w3, by rw [aR, if_pos rfl]; unfold kids; rw [if_neg w2, if_neg w3]; rfl⟩
 | .tup [.str x, l], h =>
  have h' : (decide (x = "place") && slD l) = true := h
  rw [Bool.and_eq_true] at h'
  have e : x = "place" := of_decide_eq_true h'.1
  subst e
  exact ⟨_, _, rfl, fun z => absurd z w4, fun z => absurd z w5, by rw [aR, if_pos ⟨rfl, h'.2⟩]; unfold kids; rw [if_neg w4, if_neg w5]; rfl⟩
 | .tup [.str x, a, b], h =>
  have h' : ((decide (x = "row") && slD a) || decide (x = "pair")) = true := h
  rw [Bool.or_eq_true, Bool.and_eq_true] at h'
  refine ⟨x, _, rfl, fun _ => rfl, fun _ => rfl, ?_⟩
  rw [aR]
  rcases h' with ⟨h1, h2⟩ | h1
  ·have e : x = "row" := of_decide_eq_true h1
   subst e
   rw [if_neg w6, if_pos ⟨rfl, h2⟩]
   unfold kids
   rw [if_pos rfl]
   simp
  ·have e : x = "pair" := of_decide_eq_true h1
   subst e
   rw [if_pos rfl]
   unfold kids
   rw [if_neg (Ne.symm w6), if_pos rfl]
   simp [Nat.add_assoc]
theorem size_pos (d : Dv) : 1 <= aR d := by
 cases h : cT d with
 | false => rw [oY h]; decide
 | true => obtain ⟨x, r, _, _, _, e⟩ := gN h; rw [e]; omega
theorem qC {H : Hp} {x : Str} {r : List Dv} {us : List V} (h : aj H r us) : aj H (kids x r) (kids x us) := by
 unfold kids
 split
 ·match r, us, h with
  | [], us, h => simp only [aj] at h; subst h; simp only [List.drop_nil, aj]
  | d :: r, us, h => simp only [aj] at h; obtain ⟨v, q, rfl, _, h2⟩ := h; exact h2
 ·split
  ·exact h
  ·simp only [aj]
theorem oh {x : Str} {r : List Dv} (h : bb r = true) : bb (kids x r) = true := by
 unfold kids
 split
 ·match r, h with
  | [], _ => rfl
  | d :: r, h => simp only [bb, Bool.and_eq_true] at h; exact h.2
 ·split
  ·exact h
  ·rfl
theorem lK {α : Type} {x : Str} {r : List α} (h1 : x = "row" -> r.length = 2) (h2 : x = "pair" -> r.length = 2) : (kids x r).length <= 2 := by
 unfold kids
 split
 ·rename_i e; rw [List.length_drop, h1 e]; decide
 ·split
  ·rename_i e; rw [h2 e]; exact Nat.le_refl _
  ·exact Nat.zero_le _
theorem iP : ∀ {xs ys : List Dv}, bb xs = true -> bb ys = true -> bb (xs ++ ys) = true
 | [], _, _, h => h
 | x :: xs, ys, g, h => by
  simp only [bb, Bool.and_eq_true, List.cons_append] at g ⊢
  exact ⟨g.1, iP g.2 h⟩
theorem gO : ∀ {xs : List Dv} {y : Dv}, bb (xs ++ [y]) = true -> bb xs = true /\ y.small = true
 | [], y, h => by simpa [bb] using h
 | x :: xs, y, h => by
  simp only [bb, Bool.and_eq_true, List.cons_append] at h ⊢
  have := gO h.2
  exact ⟨⟨h.1, this.1⟩, this.2⟩
theorem kf {H : Hp} {l : Addr} {o : HO} : ao (bx H l) (bx (upd H l o) l) := fun b u h => by
 unfold bx at h ⊢
 split at h
 ·cases h
 ·rename_i e; rw [if_neg e, aE e]; exact h
def fW : Sp := spS fun d => decide (aR d <= 12)
section
variable {P : Program} {w : World} {K : PySem.W.Frag} {mg : Str -> Option Value} {base : Heap}
theorem ir : aH ["thing", "size", "waiting", "point"] ["thing"] (ai du) := ⟨rfl, rfl, rfl, by decide +kernel, rfl, by decide +kernel, by decide +kernel⟩
theorem nG {f : Addr} {fd : FuncData} {k : Nat} (F : Fun K "is_kind" "is_kind" du f fd) (T : Txt K mg) (Dis_point : Def P w K mg base k "is_point" ["thing"] (spS cT)) (Dthings_of : Def P w K mg base k "things_of" ["point"] sn) :
  bi P w K mg base CX0 (k + 1) f fd ["thing"] fW := by
 have nd : (["thing", "size", "waiting", "point"] : List Str).Nodup := ir.nd
 refine F.ok ir (fun vs H Q E h => ?_) (fun cdv A outer s H vs Q E hr h => ?_)
 ·obtain ⟨v, d, rfl, _⟩ := h
  rfl
 obtain ⟨v, d, rfl, R, hsm, q⟩ := h
 replace q : ∀ (H' : Hp), ao H H' -> Q (V.bl (decide (aR d <= 12))) H' := q
 refine ⟨_, (@ae _ _ _ _ _ (@aJ _ _ (1) _ _ _ _ nd rfl (Or.inl rfl) (@ac _ _ _ _) (by rfl) (by trivial)) (@ae _ _ _ _ _ (@aJ _ _ (2) _ _ _ _ nd rfl (Or.inl rfl) (@bp _ _ _ _ (@aa _ _ _ _ _ (@pv _ 0 _ _ (by rfl) (by trivial) (by decide) (by decide)) (@ab _) (by rfl))) (by rfl) (by trivial)) (@ae _ _ _ _ _ (@iM _ _ _ _ _ _ PassesOwn.never (@io _ _ _ (@pv _ 2 _ _ (by rfl) (by trivial) (by decide) (by decide)) (fun _ => rfl)) (@ae _ _ _ _ _ (@aJ _ _ (3) _ _ _ _ nd rfl (Or.inl rfl) (@eP _ _ _ _ _ _ _ _ _ PySem.F.plainAttrs_list PySem.F.slot_list_pop PySem.F.type_list_pop iz (@pv _ 2 _ _ (by rfl) (by trivial) (by decide) (by decide)) (by rfl) (by rfl)) (by rfl) (by trivial)) (@ae _ _ _ _ _ (@sM _ _ (1) _ _ _ _ _ _ nd rfl (Or.inl rfl) (@ac _ _ _ _) rP (by trivial)) (@ae _ _ _ _ _ (@aN _ _ _ _ _ _ _ _ (@PW.pt _ _ _ (@cD _ _ _ _ _ _ _ (@ap _ _ _ _ _ _ _ _ gH (@pv _ 1 _ _ (by rfl) (by trivial) (by decide) (by decide)) (T.g_GREATEST_SIZE rfl) (aq _)) (@cj _ _ _ _ (@bM _ _ _ _ (@bF _ _ _ (@au _ _ _ _ _ _ _ _ _ _ Dis_point hr rfl (@aa _ _ _ _ _ (@pv _ 3 _ _ (by rfl) (by trivial) (by decide) (by decide)) (@ab _) (by rfl)) (by decide) (by rfl) (by rfl)) (by intro _; rfl)))))) (@ah _ _ _ (@ar _ _ _ _ (@bN _ _ _ _))) (@av _)) (@ah _ _ _ (@bt _ _ _ _ (@dX _ _ _ _ _ _ _ _ _ _ _ _ PySem.F.plainAttrs_list PySem.F.slot_list_extend PySem.F.type_list_extend gx (@pv _ 2 _ _ (by rfl) (by trivial) (by decide) (by decide)) (@aa _ _ _ _ _ (@au _ _ _ _ _ _ _ _ _ _ Dthings_of hr rfl (@aa _ _ _ _ _ (@pv _ 3 _ _ (by rfl) (by trivial) (by decide) (by decide)) (@ab _) (by rfl)) (by decide) (by rfl) (by rfl)) (@ab _) (by rfl)) (by rfl) (by rfl) (by rfl) (by rfl) (by rfl)) (by rfl))))))) (@ah _ _ _ (@ar _ _ _ _ (@bN _ _ _ _)))))), ?_⟩
 refine ⟨_, rfl, z1, fun W1 hW => ?_⟩
 have q1 := af hW (.lst [v])
 refine mP (fun m σ H' => ∃ (o3 : Option V) (sz : Nat) (ws : List Dv) (vs : List V), σ = [some v, some (.int sz), some (.ref W1), o3] /\ ao H (bx H' W1) /\ H' W1 = some (.lst vs) /\ aj (bx H' W1) ws vs /\ bb ws = true /\ (sz + (ws.map aR).sum <= 12 ↔ aR d <= 12) /\ m = 12 - sz /\ sz <= 12 /\ ws.length <= 1 + sz) 12
  ⟨_, 0, [d], [v], rfl, gk q1 hW, ad, bg (R.mono (gk q1 hW)), by simp only [bb, hsm, Bool.and_self], by simp, rfl, by decide, Nat.le_refl _⟩ ?_ fI
 rintro m σ H1 D1 gR gD ⟨o3, sz, ws, vs, rfl, s1, w1, R1, sm, eq, rfl, s12, lw⟩
 have s01 : ao H H1 := s1.trans bW
 refine ⟨_, rfl, _, .inl ⟨vs, SqL.of w1, rfl⟩, ?_⟩
 by_cases ne : ws = []
 ·subst ne
  have e : vs = [] := by simpa only [aj] using R1
  subst e
  refine aM ?_
  have := q H1 s01
  rw [decide_eq_true (eq.mp (by simpa using s12))] at this
  exact this
 ·obtain ⟨w0, x, rfl⟩ := fQ ne
  obtain ⟨v0, u, rfl, Ra, Ru⟩ := dl R1
  have e : (!(v0 ++ [u]).isEmpty) = true := by simp
  rw [e]
  refine aO ?_
  rw [List.map_append, List.sum_append, List.map_cons, List.map_nil, List.sum_cons, List.sum_nil] at eq
  rw [List.length_append, List.length_singleton] at lw
  obtain ⟨sm0, smx⟩ := gO sm
  refine ⟨_, rfl, .inl ⟨rfl, _, SqL.of w1⟩, W1, _, _, rfl, rfl, w1, eO _ _, ?_⟩
  rw [List.dropLast_concat]
  have t2 : ao (bx H1 W1) (bx (upd H1 W1 (.lst v0)) W1) := kf
  have w2 : upd H1 W1 (.lst v0) W1 = some (.lst v0) := ad
  have s02 : ao H _ := s1.trans (t2.trans bW)
  generalize upd H1 W1 (.lst v0) = H2 at t2 w2 s02 ⊢
  have xp := size_pos x
  refine ⟨_, rfl, _, _, rfl, rfl, ?_⟩
  refine ⟨_, rfl, _, _, rfl, rfl, _, rfl, ?_⟩
  refine bn (fun h => ?_) (fun h => ?_)
  ·have h' : (12 : Int) < (sz : Int) + 1 := of_decide_eq_true h
   have := q H2 s02
   rw [decide_eq_false (fun z => by have := eq.mpr z; omega)] at this
   exact aO (gR _ _ this)
  have h' : sz + 1 <= 12 := by have z : ¬ ((12 : Int) < (sz : Int) + 1) := of_decide_eq_false (Bool.eq_false_iff.mpr h); omega
  refine ⟨_, rfl, u, x, rfl, Ru.mono (t2.trans bW), smx, fun H3 s3 => ⟨_, rfl, ?_⟩⟩
  have s03 := s02.trans s3
  cases c : cT x with
  | false =>
   have := q H3 s03
   rw [decide_eq_false (fun z => by have := eq.mpr z; rw [oY c] at this; omega)] at this
   exact aO (gR _ _ this)
  | true =>
   refine aM ?_
   obtain ⟨wd, r, rfl, k1, k2, es⟩ := gN c
   have Rx : Rep (bx H3 W1) (.tup (.str wd :: r)) u := Ru.mono (t2.trans (bT s3))
   obtain ⟨a, us, rfl, ha, rs⟩ := Rep.tup_inv Rx
   simp only [aj] at rs
   obtain ⟨y, ur, rfl, R0, ru⟩ := rs
   obtain rfl : y = .str wd := R0
   have hl := ru.length
   have w3 := s3 _ _ w2
   have lk : (kids wd ur).length <= 2 := lK (fun z => by rw [hl]; exact k1 z) (fun z => by rw [hl]; exact k2 z)
   have lv : v0.length <= 12 := by rw [Ra.length]; omega
   refine ⟨_, rfl, .inl ⟨rfl, _, SqL.of w3⟩, _, rfl, a, wd, ur, rfl, bW _ _ ha, fun z => by rw [hl]; exact k1 z, fun z => by rw [hl]; exact k2 z, fun l hl4 => ?_⟩
   have q4 := af hl4 (.lst (kids wd ur))
   refine ⟨W1, l, _, _, rfl, rfl, q4 _ _ w3, ad, by rw [sizeLine_eq]; omega, ?_⟩
   have t5 : ao (bx H3 W1) (bx (upd (upd H3 l (.lst (kids wd ur))) W1 (.lst (v0 ++ kids wd ur))) W1) := (bT q4).trans kf
   have t15 := t2.trans ((bT s3).trans t5)
   refine gD (12 - (sz + 1)) _ _ (by omega) ⟨_, sz + 1, w0 ++ kids wd r, v0 ++ kids wd ur, rfl, s1.trans t15, ad, aj.append (Ra.mono t15) ((qC ru).mono t5), iP sm0 (oh (by simp only [Dv.small, bb, Bool.and_eq_true] at smx; exact smx.1.2)), ?_, rfl, h', ?_⟩
   ·rw [<- eq, es, List.map_append, List.sum_append]
    constructor <;> intro z <;> omega
   ·have := lK (α := Dv) k1 k2
    rw [List.length_append]; omega
end
abbrev cE : Stmt := top 24
abbrev bL : Stmt := top 32
abbrev dY : Stmt := top 33
abbrev gy : Stmt := top 34
def rh (b : Int) : Dv -> Bool
 | .int i => decide (0 <= i) && decide (i < b)
 | _ => false
def gm (b : Int) : Dv -> Bool
 | .tup ds => decide (b <= (ds.length : Int)) && decide ((ds.length : Int) <= 4)
 | _ => false
def gP (x : Str) : Bool := inV (.str x) (sU.map V.str)
def eK (x : Str) : Bool := WT.any fun p => decide (p.1 = x)
def fO : Dv -> Bool
 | .str x => nmB x && (!eK x && !gP x)
 | _ => false
def wP : Dv -> Bool
 | .str x => gP x
 | _ => false
def rM : So -> Dv -> Bool
 | .n, d => rh 1000000000000 d
 | .x, d => bJ d
 | .y, d => bJ d
 | .l, d => slD d
 | .k, d => decide (aR d <= 12)
 | .w, d => wP d
 | .f, d => fO d
 | .a, d => gm 0 d
 | .r, d => gm 1 d
 | .e, _ => true
def kh : Sp := fun vs H Q _ => ∃ (v : V) (d : Dv) (b : Int), vs = [v, .int b] /\ Rep H d v /\ ∀ H', ao H H' -> Q (.bl (rh b d)) H'
def mM : Sp := fun vs H Q _ => ∃ (v : V) (d : Dv) (b : Int), vs = [v, .int b] /\ Rep H d v /\ ∀ H', ao H H' -> Q (.bl (gm b d)) H'
def nS : Sp := fun vs H Q _ => ∃ (s : So) (v : V) (d : Dv), vs = [.str (srt s), v] /\ Rep H d v /\ d.small = true /\ ∀ H', ao H H' -> Q (.bl (rM s d)) H'
section
variable {P : Program} {w : World} {K : PySem.W.Frag} {mg : Str -> Option Value} {base : Heap}
theorem mF : aH ["thing", "bound"] ["thing", "bound"] (ai cE) := ⟨rfl, rfl, rfl, by decide +kernel, rfl, by decide +kernel, by decide +kernel⟩
theorem mw {f : Addr} {fd : FuncData} {k : Nat} (F : Fun K "is_below" "is_below" cE f fd) (T : Txt K mg) (Dis_whole : Def P w K mg base k "is_whole" ["thing"] (spD cf)) : bi P w K mg base CX0 (k + 1) f fd ["thing", "bound"] kh := by
 refine F.ok mF (fun vs H Q E h => ?_) (fun cdv A outer s H vs Q E hr h => ?_)
 ·obtain ⟨v, d, b, rfl, _⟩ := h
  rfl
 obtain ⟨v, d, b, rfl, R, q⟩ := h
 refine ⟨_, (@ah _ _ _ (@ar _ _ _ _ (@bm _ _ _ _ _ _ _ (@au _ _ _ _ _ _ _ _ _ _ Dis_whole hr rfl (@aa _ _ _ _ _ (@pv _ 0 _ _ (by rfl) (by trivial) (by decide) (by decide)) (@ab _) (by rfl)) (by decide) (by rfl) (by rfl)) (@bH _ _ _ _ _ (@iD _ _ _ _ _ _ _ _ _ _ _ _ jo rq (@ac _ _ _ _) (@pv _ 0 _ _ (by rfl) (by trivial) (by decide) (by decide)) (@pv _ 1 _ _ (by rfl) (by trivial) (by decide) (by decide)) (by with_unfolding_all rfl)))))), ?_⟩
 refine ⟨_, rfl, v, d, rfl, R, fun H1 s1 => ⟨_, rfl, ?_⟩⟩
 have qq := q H1 s1
 cases d with
 | int i =>
  obtain rfl : v = .int i := R
  refine aO ⟨_, rfl, _, _, rfl, rfl, _, rfl, ?_⟩
  have qq' : Q (.bl (decide (0 <= i) && decide (i < b))) H1 := qq
  by_cases h : 0 <= i
  ·rw [decide_eq_true h] at qq' ⊢
   exact aO ⟨_, rfl, _, _, rfl, rfl, qq'⟩
  ·rw [decide_eq_false h] at qq' ⊢
   exact aM qq'
 | _ => exact aM qq
theorem qE : aH ["thing", "least"] ["thing", "least"] (ai dY) := ⟨rfl, rfl, rfl, by decide +kernel, rfl, by decide +kernel, by decide +kernel⟩
theorem pZ {f : Addr} {fd : FuncData} (F : Fun K "is_few" "is_few" dY f fd) (T : Txt K mg) : bi P w K mg base CX0 1 f fd ["thing", "least"] mM := by
 refine F.ok qE (fun vs H Q E h => ?_) (fun cdv A outer s H vs Q E hr h => ?_)
 ·obtain ⟨v, d, b, rfl, _⟩ := h
  rfl
 obtain ⟨v, d, b, rfl, R, q⟩ := h
 refine ⟨_, (@ah _ _ _ (@ar _ _ _ _ (@bm _ _ _ _ _ _ _ (@ax _ _ _ _ _ _ _ _ _ bB rfl T.isinstance (by decide +kernel) (@aa _ _ _ _ _ (@pv _ 0 _ _ (by rfl) (by trivial) (by decide) (by decide)) (@aa _ _ _ _ _ (@bX _ _ (.ty "tuple") _ _ rfl T.tuple (by decide +kernel) rfl (by decide) (by decide)) (@ab _) (by rfl)) (by rfl)) (by decide) (by decide) (by rfl) (by rfl)) (@bH _ _ _ _ _ (@iD _ _ _ _ _ _ _ _ _ _ _ _ jo jo (@pv _ 1 _ _ (by rfl) (by trivial) (by decide) (by decide)) (@ax _ _ _ _ _ _ _ _ _ aI rfl T.len (by decide +kernel) (@aa _ _ _ _ _ (@pv _ 0 _ _ (by rfl) (by trivial) (by decide) (by decide)) (@ab _) (by rfl)) (by decide) (by decide) (by rfl) (by rfl)) (T.g_MOST_THINGS rfl) (by with_unfolding_all rfl)))))), ?_⟩
 have qq := q H (ao.refl H)
 refine ⟨_, rfl, v, _, _, _, rfl, R.ty, dh K d, _, rfl, ?_⟩
 cases d with
 | tup ds =>
  obtain ⟨a, vs, rfl, ha, rs⟩ := Rep.tup_inv R
  have hl := rs.length
  refine aO ⟨_, rfl, _, rfl, a, vs, rfl, .inr (SqT.of ha), _, _, rfl, rfl, _, rfl, ?_⟩
  have qq' : Q (.bl (decide (b <= (ds.length : Int)) && decide ((ds.length : Int) <= 4))) H := qq
  rw [<- hl] at qq'
  by_cases h : b <= (vs.length : Int)
  ·rw [decide_eq_true h] at qq' ⊢
   exact aO ⟨_, _, rfl, rfl, qq'⟩
  ·rw [decide_eq_false h] at qq' ⊢
   exact aM qq'
 | _ => exact aM qq
theorem iA : aH ["thing"] ["thing"] (ai bL) := ⟨rfl, rfl, rfl, by decide +kernel, rfl, by decide +kernel, by decide +kernel⟩
theorem iJ {f gS gR : Addr} {fd : FuncData} {k : Nat} (F : Fun K "is_def_name" "is_def_name" bL f fd) (T : Txt K mg) (S : Shp P w K gS) (GS : mg "SHAPES" = some (.ref gS)) (GR : mg "RECKONS" = some (.ref gR)) (hR : ∀ H, SqT K H gR (sU.map V.str)) (Dis_name : Def P w K mg base k "is_name" ["thing"] (spS bJ)) : bi P w K mg base CX0 (k + 1) f fd ["thing"] (spS fO) := by
 refine F.ok iA (fun vs H Q E h => ?_) (fun cdv A outer s H vs Q E hr h => ?_)
 ·obtain ⟨v, d, rfl, _⟩ := h
  rfl
 obtain ⟨v, d, rfl, R, sm, q⟩ := h
 obtain ⟨kvs, FS, _, hS⟩ := S.ex
 refine ⟨_, (@ah _ _ _ (@ar _ _ _ _ (@bm _ _ _ _ _ _ _ (@au _ _ _ _ _ _ _ _ _ _ Dis_name hr rfl (@aa _ _ _ _ _ (@pv _ 0 _ _ (by rfl) (by trivial) (by decide) (by decide)) (@ab _) (by rfl)) (by decide) (by rfl) (by rfl)) (@bm _ _ _ _ _ _ _ (@bd _ _ _ _ _ _ _ _ (ju FS) (@pv _ 0 _ _ (by rfl) (by trivial) (by decide) (by decide)) (@bG _ _ (.ref gS) _ _ rfl GS rfl (by decide)) (by with_unfolding_all rfl)) (@bH _ _ _ _ _ (@bd _ _ _ _ _ _ _ _ ky (@pv _ 0 _ _ (by rfl) (by trivial) (by decide) (by decide)) (@bG _ _ (.ref gR) _ _ rfl GR rfl (by decide)) (by with_unfolding_all rfl))))))), ?_⟩
 refine ⟨_, rfl, v, d, rfl, R, sm, fun H1 s1 => ⟨_, rfl, ?_⟩⟩
 have qq := q H1 s1
 cases d with
 | str x =>
  obtain rfl : v = .str x := R
  have qq' : Q (.bl (nmB x && (!eK x && !gP x))) H1 := qq
  show if nmB x = true then _ else _
  cases hn : nmB x with
  | false => rw [hn] at qq'; exact aM qq'
  | true =>
   rw [hn] at qq'
   refine aO ⟨_, rfl, x, rfl, rfl, _, rfl, ?_⟩
   rw [hS x]
   show if xor true (eK x) = true then _ else _
   cases hw : eK x with
   | true => rw [hw] at qq'; exact aM qq'
   | false =>
    rw [hw] at qq'
    exact aO ⟨_, rfl, gR, _, rfl, .inr (hR _), rfl, by decide +kernel, qq'⟩
 | _ => exact aM qq
theorem uT : aH ["sort", "thing"] ["sort", "thing"] (ai gy) := ⟨rfl, rfl, rfl, by decide +kernel, rfl, by decide +kernel, by decide +kernel⟩
theorem ud {f gR : Addr} {fd : FuncData} {k : Nat} (F : Fun K "fits" "fits" gy f fd) (T : Txt K mg) (GR : mg "RECKONS" = some (.ref gR)) (hR : ∀ H, SqT K H gR (sU.map V.str)) (Dis_below : Def P w K mg base k "is_below" ["thing", "bound"] kh) (Dis_name : Def P w K mg base k "is_name" ["thing"] (spS bJ)) (Dis_small_length : Def P w K mg base k "is_small_length" ["thing"] (spS slD)) (Dis_kind : Def P w K mg base k "is_kind" ["thing"] fW) (Dis_def_name : Def P w K mg base k "is_def_name" ["thing"] (spS fO)) (Dis_few : Def P w K mg base k "is_few" ["thing", "least"] mM) : bi P w K mg base CX0 (k + 1) f fd ["sort", "thing"] nS := by
 refine F.ok uT (fun vs H Q E h => ?_) (fun cdv A outer s H vs Q E hr h => ?_)
 ·obtain ⟨s, v, d, rfl, _⟩ := h
  rfl
 obtain ⟨so, v, d, rfl, R, sm, q⟩ := h
 refine ⟨_, (@ae _ _ _ _ _ (@aN _ _ _ _ _ _ _ _ (@ap _ _ _ _ _ _ _ _ aU (@pv _ 0 _ _ (by rfl) (by trivial) (by decide) (by decide)) (@aD _ _ _ _) (aq _)) (@ah _ _ _ (@ar _ _ _ _ (@au _ _ _ _ _ _ _ _ _ _ Dis_below hr rfl (@aa _ _ _ _ _ (@pv _ 1 _ _ (by rfl) (by trivial) (by decide) (by decide)) (@aa _ _ _ _ _ (T.g_WHOLE_BOUND rfl) (@ab _) (by rfl)) (by rfl)) (by decide) (by rfl) (by rfl)))) (@av _)) (@ae _ _ _ _ _ (@aN _ _ _ _ _ _ _ _ (@ap _ _ _ _ _ _ _ _ aU (@pv _ 0 _ _ (by rfl) (by trivial) (by decide) (by decide)) (@aD _ _ _ _) (aq _)) (@ah _ _ _ (@ar _ _ _ _ (@au _ _ _ _ _ _ _ _ _ _ Dis_name hr rfl (@aa _ _ _ _ _ (@pv _ 1 _ _ (by rfl) (by trivial) (by decide) (by decide)) (@ab _) (by rfl)) (by decide) (by rfl) (by rfl)))) (@av _)) (@ae _ _ _ _ _ (@aN _ _ _ _ _ _ _ _ (@ap _ _ _ _ _ _ _ _ aU (@pv _ 0 _ _ (by rfl) (by trivial) (by decide) (by decide)) (@aD _ _ _ _) (aq _)) (@ah _ _ _ (@ar _ _ _ _ (@au _ _ _ _ _ _ _ _ _ _ Dis_small_length hr rfl (@aa _ _ _ _ _ (@pv _ 1 _ _ (by rfl) (by trivial) (by decide) (by decide)) (@ab _) (by rfl)) (by decide) (by rfl) (by rfl)))) (@av _)) (@ae _ _ _ _ _ (@aN _ _ _ _ _ _ _ _ (@ap _ _ _ _ _ _ _ _ aU (@pv _ 0 _ _ (by rfl) (by trivial) (by decide) (by decide)) (@aD _ _ _ _) (aq _)) (@ah _ _ _ (@ar _ _ _ _ (@au _ _ _ _ _ _ _ _ _ _ Dis_kind hr rfl (@aa _ _ _ _ _ (@pv _ 1 _ _ (by rfl) (by trivial) (by decide) (by decide)) (@ab _) (by rfl)) (by decide) (by rfl) (by rfl)))) (@av _)) (@ae _ _ _ _ _ (@aN _ _ _ _ _ _ _ _ (@ap _ _ _ _ _ _ _ _ aU (@pv _ 0 _ _ (by rfl) (by trivial) (by decide) (by decide)) (@aD _ _ _ _) (aq _)) (@ah _ _ _ (@ar _ _ _ _ (@bm _ _ _ _ _ _ _ (@ax _ _ _ _ _ _ _ _ _ bB rfl T.isinstance (by decide +kernel) (@aa _ _ _ _ _ (@pv _ 1 _ _ (by rfl) (by trivial) (by decide) (by decide)) (@aa _ _ _ _ _ (@bX _ _ (.ty "str") _ _ rfl T.str (by decide +kernel) rfl (by decide) (by decide)) (@ab _) (by rfl)) (by rfl)) (by decide) (by decide) (by rfl) (by rfl)) (@bH _ _ _ _ _ (@bd _ _ _ _ _ _ _ _ pS (@pv _ 1 _ _ (by rfl) (by trivial) (by decide) (by decide)) (@bG _ _ (.ref gR) _ _ rfl GR rfl (by decide)) (by with_unfolding_all rfl)))))) (@av _)) (@ae _ _ _ _ _ (@aN _ _ _ _ _ _ _ _ (@ap _ _ _ _ _ _ _ _ aU (@pv _ 0 _ _ (by rfl) (by trivial) (by decide) (by decide)) (@aD _ _ _ _) (aq _)) (@ah _ _ _ (@ar _ _ _ _ (@au _ _ _ _ _ _ _ _ _ _ Dis_def_name hr rfl (@aa _ _ _ _ _ (@pv _ 1 _ _ (by rfl) (by trivial) (by decide) (by decide)) (@ab _) (by rfl)) (by decide) (by rfl) (by rfl)))) (@av _)) (@ae _ _ _ _ _ (@aN _ _ _ _ _ _ _ _ (@ap _ _ _ _ _ _ _ _ aU (@pv _ 0 _ _ (by rfl) (by trivial) (by decide) (by decide)) (@aD _ _ _ _) (aq _)) (@ah _ _ _ (@ar _ _ _ _ (@au _ _ _ _ _ _ _ _ _ _ Dis_few hr rfl (@aa _ _ _ _ _ (@pv _ 1 _ _ (by rfl) (by trivial) (by decide) (by decide)) (@aa _ _ _ _ _ (@ac _ _ _ _) (@ab _) (by rfl)) (by rfl)) (by decide) (by rfl) (by rfl)))) (@av _)) (@ae _ _ _ _ _ (@aN _ _ _ _ _ _ _ _ (@ap _ _ _ _ _ _ _ _ aU (@pv _ 0 _ _ (by rfl) (by trivial) (by decide) (by decide)) (@aD _ _ _ _) (aq _)) (@ah _ _ _ (@ar _ _ _ _ (@au _ _ _ _ _ _ _ _ _ _ Dis_few hr rfl (@aa _ _ _ _ _ (@pv _ 1 _ _ (by rfl) (by trivial) (by decide) (by decide)) (@aa _ _ _ _ _ (@ac _ _ _ _) (@ab _) (by rfl)) (by rfl)) (by decide) (by rfl) (by rfl)))) (@av _)) (@ah _ _ _ (@ar _ _ _ _ (@bN _ _ _ _))))))))))), ?_⟩
 refine ⟨_, rfl, rfl, _, rfl, bn (fun h => ?_) (fun h1 => ?_)⟩
 ·have e := (vp so).mp (of_decide_eq_true h)
  subst e
  exact ⟨_, rfl, v, d, _, rfl, R, q⟩
 refine ⟨_, rfl, rfl, _, rfl, bn (fun h => ?_) (fun h2 => ?_)⟩
 ·rcases (tw so).mp (of_decide_eq_true h) with e | e
  ·subst e; exact ⟨_, rfl, v, d, rfl, R, sm, q⟩
  ·subst e; exact ⟨_, rfl, v, d, rfl, R, sm, q⟩
 refine ⟨_, rfl, rfl, _, rfl, bn (fun h => ?_) (fun h3 => ?_)⟩
 ·have e := (vC so).mp (of_decide_eq_true h)
  subst e
  exact ⟨_, rfl, v, d, rfl, R, sm, q⟩
 refine ⟨_, rfl, rfl, _, rfl, bn (fun h => ?_) (fun h4 => ?_)⟩
 ·have e := (vq so).mp (of_decide_eq_true h)
  subst e
  exact ⟨_, rfl, v, d, rfl, R, sm, q⟩
 refine ⟨_, rfl, rfl, _, rfl, bn (fun h => ?_) (fun h5 => ?_)⟩
 ·have e := (vy so).mp (of_decide_eq_true h)
  subst e
  refine ⟨_, rfl, v, _, _, _, rfl, R.ty, jR K d, _, rfl, ?_⟩
  have qq := q H (ao.refl H)
  cases d with
  | str x =>
   obtain rfl : v = .str x := R
   exact aO ⟨_, rfl, gR, _, rfl, .inr (hR _), rfl, by decide +kernel, qq⟩
  | _ => exact aM qq
 refine ⟨_, rfl, rfl, _, rfl, bn (fun h => ?_) (fun h6 => ?_)⟩
 ·have e := (vc so).mp (of_decide_eq_true h)
  subst e
  exact ⟨_, rfl, v, d, rfl, R, sm, q⟩
 refine ⟨_, rfl, rfl, _, rfl, bn (fun h => ?_) (fun h7 => ?_)⟩
 ·have e := (lZ so).mp (of_decide_eq_true h)
  subst e
  exact ⟨_, rfl, v, d, _, rfl, R, q⟩
 refine ⟨_, rfl, rfl, _, rfl, bn (fun h => ?_) (fun h8 => ?_)⟩
 ·have e := (mN so).mp (of_decide_eq_true h)
  subst e
  exact ⟨_, rfl, v, d, _, rfl, R, q⟩
 have e : so = .e := by
  cases so with
  | e => rfl
  | n => exact absurd (decide_eq_true ((vp .n).mpr rfl)) h1
  | x => exact absurd (decide_eq_true ((tw .x).mpr (.inl rfl))) h2
  | y => exact absurd (decide_eq_true ((tw .y).mpr (.inr rfl))) h2
  | l => exact absurd (decide_eq_true ((vC .l).mpr rfl)) h3
  | k => exact absurd (decide_eq_true ((vq .k).mpr rfl)) h4
  | w => exact absurd (decide_eq_true ((vy .w).mpr rfl)) h5
  | f => exact absurd (decide_eq_true ((vc .f).mpr rfl)) h6
  | a => exact absurd (decide_eq_true ((lZ .a).mpr rfl)) h7
  | r => exact absurd (decide_eq_true ((mN .r).mpr rfl)) h8
 subst e
 exact q H (ao.refl H)
end
abbrev de : Stmt := top 35
abbrev cK : Stmt := top 36
def jZ : Sp := fun vs H Q _ => ∃ (v : V) (d : Dv) (G : Hp), vs = [v] /\ ao G H /\ Rep G d v /\ wb d /\ ∀ (H' : Hp) (l : Addr) (us : List V), ao H H' -> H l = none -> H' l = some (.lst us) -> aj G (cN d) us -> Q (.ref l) H'
def okF : List So -> List Dv -> Bool
 | [], [] => true
 | s :: ss, d :: ds => rM s d && okF ss ds
 | _, _ => false
def jy : List Dv -> Bool
 | .str x :: _ :: .str y :: _ => decide (x ≠ y)
 | _ => false
def eG : Dv -> Bool
 | .tup (.str w :: ds) => match WT.find? (fun q => decide (q.1 = w)) with
  | some p => okF p.2.2 ds && (decide (w ≠ "fold") || jy ds)
  | none => false
 | _ => false
theorem qj {d : Dv} (h : eI d = false) : eG d = false := by
 match d, h with
 | .tup (.str x :: r), h => cases h
 | .tup [], _ => rfl
 | .tup (.non :: r), _ => rfl
 | .tup (.bl _ :: r), _ => rfl
 | .tup (.int _ :: r), _ => rfl
 | .tup (.tup _ :: r), _ => rfl
 | .tup (.lst _ :: r), _ => rfl
 | .tup (.dct :: r), _ => rfl
 | .non, _ => rfl
 | .bl _, _ => rfl
 | .int _, _ => rfl
 | .str _, _ => rfl
 | .lst _, _ => rfl
 | .dct, _ => rfl
theorem oK {x : Str} {ds : List Dv} (h : eK x = false) : eG (.tup (.str x :: ds)) = false := by
 have e : WT.find? (fun q => decide (q.1 = x)) = none := by
  rw [List.find?_eq_none]
  intro p hp
  have := List.any_eq_false.mp h p hp
  exact this
 show (match WT.find? (fun q => decide (q.1 = x)) with | some p' => okF p'.2.2 ds && (decide (x ≠ "fold") || jy ds) | none => false) = _
 rw [e]
theorem pI {x : Str} (h : eK x = true) : ∃ p ∈ WT, p.1 = x := by
 obtain ⟨p, hp, e⟩ := List.any_eq_true.mp h
 exact ⟨p, hp, of_decide_eq_true e⟩
theorem fS {p : Wd} (hp : p ∈ WT) (ds : List Dv) : eG (.tup (.str p.1 :: ds)) = (okF p.2.2 ds && (decide (p.1 ≠ "fold") || jy ds)) := by
 show (match WT.find? (fun q => decide (q.1 = p.1)) with | some p' => okF p'.2.2 ds && (decide (p.1 ≠ "fold") || jy ds) | none => false) = _
 rw [oV vv hp]
theorem jT : ∀ {ss : List So} {ds : List Dv}, okF ss ds = true -> ds.length = ss.length
 | [], [], _ => rfl
 | s :: ss, d :: ds, h => by
  simp only [okF, Bool.and_eq_true] at h
  rw [List.length_cons, List.length_cons, jT h.2]
 | [], _ :: _, h => by cases h
 | _ :: _, [], h => by cases h
theorem rd {ss : List So} {ds : List Dv} {i : Nat} {s : So} {d : Dv} (hs : ss[i]? = some s) (hd : ds[i]? = some d) : okF (ss.drop i) (ds.drop i) = (rM s d && okF (ss.drop (i + 1)) (ds.drop (i + 1))) := by
 obtain ⟨h1, rfl⟩ := List.getElem?_eq_some_iff.mp hs
 obtain ⟨h2, rfl⟩ := List.getElem?_eq_some_iff.mp hd
 rw [List.drop_eq_getElem_cons h1, List.drop_eq_getElem_cons h2]
 rfl
theorem oH {b : Int} {d : Dv} (h : gm b d = true) : ∃ es, d = .tup es /\ b <= (es.length : Int) /\ es.length <= 4 := by
 cases d with
 | tup es =>
  simp only [gm, Bool.and_eq_true, decide_eq_true_eq] at h
  exact ⟨es, rfl, h.1, by omega⟩
 | _ => cases h
theorem si : ∀ {ss : List So} {ds : List Dv}, okF ss ds = true -> F2 (Fld (fun _ => True) (fun _ _ => True)) ss ds
 | [], [], _ => .nil
 | s :: ss, d :: ds, h => by
  simp only [okF, Bool.and_eq_true] at h
  refine .cons ?_ (si h.2)
  cases s with
  | a => obtain ⟨es, rfl, _, h4⟩ := oH (b := 0) h.1; exact ⟨es, rfl, h4, fun _ _ => trivial⟩
  | r => obtain ⟨es, rfl, h1, h4⟩ := oH (b := 1) h.1; exact ⟨es, rfl, by omega, h4, fun _ _ => trivial⟩
  | e => trivial
  | _ => trivial
 | [], _ :: _, h => by cases h
 | _ :: _, [], h => by cases h
theorem qk {d : Dv} (h : eG d = true) : wb d := by
 match d, h with
 | .tup (.str x :: ds), h =>
  cases hw : eK x with
  | false => rw [oK hw] at h; cases h
  | true =>
   obtain ⟨p, hp, rfl⟩ := pI hw
   rw [fS hp, Bool.and_eq_true] at h
   exact ⟨p, ds, hp, rfl, si h.1⟩
 | .tup [], h => cases h
 | .tup (.non :: r), h => cases h
 | .tup (.bl _ :: r), h => cases h
 | .tup (.int _ :: r), h => cases h
 | .tup (.tup _ :: r), h => cases h
 | .tup (.lst _ :: r), h => cases h
 | .tup (.dct :: r), h => cases h
 | .non, h => cases h
 | .bl _, h => cases h
 | .int _, h => cases h
 | .str _, h => cases h
 | .lst _, h => cases h
 | .dct, h => cases h
theorem xV {ds : List Dv} (h : ds.length = 5) : ∃ a b c d e, ds = [a, b, c, d, e] := by
 match ds, h with
 | [a, b, c, d, e], _ => exact ⟨a, b, c, d, e, rfl⟩
theorem uk : ∀ p ∈ WT, p.1 = "fold" -> p.2.2 = [.x, .l, .y, .e, .e] := by decide +kernel
theorem mR {d : Dv} (h : bJ d = true) : ∃ x, d = .str x := by
 cases d with
 | str x => exact ⟨x, rfl⟩
 | _ => cases h
section
variable {P : Program} {w : World} {K : PySem.W.Frag} {mg : Str -> Option Value} {base : Heap}
theorem gL : aH ["node", "parts", "sort", "given"] ["node"] (ai cK) := ⟨rfl, rfl, rfl, by decide +kernel, rfl, by decide +kernel, by decide +kernel⟩
theorem lJ {f gS : Addr} {fd : FuncData} (F : Fun K "parts_of" "parts_of" cK f fd) (T : Txt K mg) (S : Shp P w K gS) (GS : mg "SHAPES" = some (.ref gS)) : bi P w K mg base CX0 1 f fd ["node"] jZ := by
 have nd : (["node", "parts", "sort", "given"] : List Str).Nodup := gL.nd
 refine F.ok gL (fun vs H Q E h => ?_) (fun cdv A outer s H vs Q E hr h => ?_)
 ·obtain ⟨v, d, G, rfl, _⟩ := h
  rfl
 obtain ⟨v, d, G, rfl, sG, R, ⟨p, ds, hp, rfl, hf⟩, q⟩ := h
 obtain ⟨kvs, FS, hS, _⟩ := S.ex
 obtain ⟨a, vs, rfl, haG, rs⟩ := Rep.tup_inv R
 obtain ⟨v0, ws, rfl, R0, rw'⟩ := el rs
 have ha := sG _ _ haG
 obtain rfl : v0 = .str p.1 := R0
 obtain ⟨b, hb, hbT⟩ := hS p hp
 have lds := hf.length
 have lws := rw'.length
 have h5 := pA p hp
 refine ⟨_, (@ae _ _ _ _ _ (@aJ _ _ (1) _ _ _ _ nd rfl (Or.inl rfl) (@bp _ _ _ _ (@ab _)) (by rfl) (by trivial)) (@ae _ _ _ _ _ (@cB _ _ _ _ _ _ _ _ PassesOwn.never rfl (@lT _ _ _ _ _ _ _ _ _ rfl T.zip (@aa _ _ _ _ _ (@pM _ _ _ _ _ _ _ _ FS (@bG _ _ (.ref gS) _ _ rfl GS rfl (by decide)) (@ay _ _ _ _ _ _ _ aB (@pv _ 0 _ _ (by rfl) (by trivial) (by decide) (by decide)) (@ac _ _ _ _) (fun _ _ => rfl)) (fun _ _ => rfl)) (@aa _ _ _ _ _ (@bq _ _ _ _ _ _ _ _ _ _ oG (@pv _ 0 _ _ (by rfl) (by trivial) (by decide) (by decide)) (@bw _ _ _ (@ac _ _ _ _)) (@bI _)) (@ab _) (by rfl)) (by rfl)) (by rfl) (by rfl)) (@cW _ _ _ _ _ _ rfl (@aT _ _ _ _ _ (@aK _ _ (2) _ nd rfl (Or.inl rfl) (by trivial)) (@aT _ _ _ _ _ (@aK _ _ (3) _ nd rfl (Or.inl rfl) (by trivial)) (@cc _) (by rfl)) (by rfl)) (by rfl) (by rfl)) (@ae _ _ _ _ _ (@aN _ _ _ _ _ _ _ _ (@ap _ _ _ _ _ _ _ _ aU (@pv _ 2 _ _ (by rfl) (by trivial) (by decide) (by decide)) (@aD _ _ _ _) (aq _)) (@ah _ _ _ (@bt _ _ _ _ (@dX _ _ _ _ _ _ _ _ _ _ _ _ PySem.F.plainAttrs_list PySem.F.slot_list_append PySem.F.type_list_append bZ (@pv _ 1 _ _ (by rfl) (by trivial) (by decide) (by decide)) (@aa _ _ _ _ _ (@pv _ 3 _ _ (by rfl) (by trivial) (by decide) (by decide)) (@ab _) (by rfl)) (by rfl) (by rfl) (by rfl) (by rfl) (by rfl)) (by rfl))) (@av _)) (@ah _ _ _ (@aN _ _ _ _ _ _ _ _ (@PW.pt _ _ _ (@cD _ _ _ _ _ _ _ (@ap _ _ _ _ _ _ _ _ aU (@pv _ 2 _ _ (by rfl) (by trivial) (by decide) (by decide)) (@aD _ _ _ _) (aq _)) (@cj _ _ _ _ (@ap _ _ _ _ _ _ _ _ aU (@pv _ 2 _ _ (by rfl) (by trivial) (by decide) (by decide)) (@aD _ _ _ _) (aq _))))) (@ah _ _ _ (@bt _ _ _ _ (@dX _ _ _ _ _ _ _ _ _ _ _ _ PySem.F.plainAttrs_list PySem.F.slot_list_extend PySem.F.type_list_extend va (@pv _ 1 _ _ (by rfl) (by trivial) (by decide) (by decide)) (@aa _ _ _ _ _ (@pv _ 3 _ _ (by rfl) (by trivial) (by decide) (by decide)) (@ab _) (by rfl)) (by rfl) (by rfl) (by rfl) (by rfl) (by rfl)) (by rfl))) (@av _)))) (by intro _; rfl)) (@ah _ _ _ (@ar _ _ _ _ (@pv _ 1 _ _ (by rfl) (by trivial) (by decide) (by decide)))))), ?_⟩
 refine ⟨Nat.zero_le _, fun l hl => ?_⟩
 have q1 := af hl (.lst [])
 have l1 : upd H l (.lst []) l = some (.lst []) := ad
 generalize upd H l (.lst []) = H1 at q1 l1 ⊢
 refine gnm ?_
 dsimp only
 refine ⟨_, rfl, a, _, 0, .str p.1, rfl, rfl, SqT.of (q1 _ _ ha), ak (j := 0) rfl, p.1, b, rfl, rfl, hb, ?_⟩
 refine ⟨_, rfl, 1, rfl, ?_⟩
 dsimp only [kW]
 refine pG (q1 _ _ ha) fun H2 t s2 ht => ?_
 have ec : bc (V.str p.1 :: ws) (some 1) none = ws := dW (V.str p.1 :: ws) 1
 rw [ec] at ht
 have s02 := q1.trans s2
 have l2 := s2 _ _ l1
 refine ⟨b, t, rfl, ⟨_, hbT _⟩, ⟨_, SqT.of ht⟩, gQ (D := { nx := wm (je 1) { nx := fun x H' => Q V.non H', rt := Q }, rt := Q }) (xs := p.2.2.map fun s => V.str (srt s)) (ys := ws) (fun i σ H' => ∃ (o2 o3 : Option V) (us : List V), σ = [some (.ref a), some (.ref l), o2, o3] /\ ao H H' /\ H' t = some (.tup ws) /\ H' l = some (.lst us) /\ aj G (bC (p.2.2.take i) (ds.take i)) us /\ us.length <= 4 * i) ⟨_, _, [], rfl, s02, ht, l2, by simp [bC, aj], Nat.le_refl _⟩ (fun i σ H' ⟨_, _, _, _, _, h, _⟩ => ⟨hbT _, SqT.of h⟩) ?T1 ?_⟩
 case T1 =>
  rintro i x y σ H3 t3 D1 gR gD hx hy ⟨o2, o3, us, rfl, s3, ht3, l3, R3, lu⟩ hp3
  rw [List.getElem?_map] at hx
  obtain ⟨so, hso, rfl⟩ := Option.map_eq_some_iff.mp hx
  have hi : i < p.2.2.length := (List.getElem?_eq_some_iff.mp hso).1
  obtain ⟨d, hd, hfd⟩ := hf.get hso
  obtain ⟨y', hy', Ry⟩ := pX rw' hd
  rw [hy] at hy'
  cases hy'
  have q4 := af hp3 (.tup [.str (srt so), y])
  have ht4 : upd H3 t3 (.tup [.str (srt so), y]) t3 = some (.tup [.str (srt so), y]) := ad
  have s4 := s3.trans q4
  have l4 := q4 _ _ l3
  have t4 := q4 _ _ ht3
  generalize upd H3 t3 (.tup [.str (srt so), y]) = H4 at ht4 s4 l4 t4 ⊢
  refine ⟨t3, _, rfl, SqT.of ht4, rfl, _, _, rfl, _, _, rfl, rfl, ?_⟩
  have put : ∀ (us' : List V), aj G (ptD so d) us' -> us'.length <= 4 -> (∃ (o2 o3 : Option V) (us2 : List V), [some (V.ref a), some (.ref l), some (.str (srt so)), some y] = [some (.ref a), some (.ref l), o2, o3] /\ ao H (upd H4 l (.lst (us ++ us'))) /\ upd H4 l (.lst (us ++ us')) t = some (.tup ws) /\ upd H4 l (.lst (us ++ us')) l = some (.lst us2) /\ aj G (bC (p.2.2.take (i + 1)) (ds.take (i + 1))) us2 /\ us2.length <= 4 * (i + 1)) := fun us' Ru lu' => by
   refine ⟨_, _, us ++ us', rfl, fun g o e => ?_, ?_, ad, ?_, by rw [List.length_append]; omega⟩
   ·rw [aE (am e hl)]; exact s4 g o e
   ·rw [aE (fun e => by rw [e, l4] at t4; cases t4)]; exact t4
   ·rw [jw _ _ _ hso hd]
    exact aj.append R3 Ru
  have same : ptD so d = [] -> (∃ (o2 o3 : Option V) (us2 : List V), [some (V.ref a), some (.ref l), some (.str (srt so)), some y] = [some (.ref a), some (.ref l), o2, o3] /\ ao H H4 /\ H4 t = some (.tup ws) /\ H4 l = some (.lst us2) /\ aj G (bC (p.2.2.take (i + 1)) (ds.take (i + 1))) us2 /\ us2.length <= 4 * (i + 1)) := fun e => by
   refine ⟨_, _, us, rfl, s4, t4, l4, ?_, by omega⟩
   rw [jw _ _ _ hso hd, e, List.append_nil]
   exact R3
  replace put := fun us' h1 h2 => gD _ _ (put us' h1 h2)
  replace same := fun e => gD _ _ (same e)
  refine ⟨_, rfl, rfl, _, rfl, bn (fun h => ?_) (fun h => ?_)⟩
  ·have e := (vt so).mp (of_decide_eq_true h)
   subst e
   refine ⟨_, rfl, .inl ⟨rfl, _, SqL.of l4⟩, _, rfl, l, _, _, rfl, rfl, l4, by rw [sizeLine_eq]; omega, ?_⟩
   have fin := put [y] (bg Ry) (by show 1 <= 4; decide)
   refine ⟨_, rfl, rfl, _, rfl, bn (fun h2 => absurd ((lZ .e).mp (of_decide_eq_true h2)) (by decide)) (fun _ => ⟨_, rfl, rfl, _, rfl, ?_⟩)⟩
   rw [show decide (V.str (srt .e) = V.str "things") = false from decide_eq_false fun h2 => absurd ((mN .e).mp h2) (by decide)]
   exact aM fin
  ·have ne : so ≠ .e := fun e => h (decide_eq_true ((vt so).mpr e))
   by_cases har : so = .a \/ so = .r
   ·obtain ⟨es, rfl, l4e⟩ : ∃ es, d = .tup es /\ es.length <= 4 := by
     rcases har with e | e
     ·subst e; obtain ⟨es, h1, h2, _⟩ := hfd; exact ⟨es, h1, h2⟩
     ·subst e; obtain ⟨es, h1, _, h2, _⟩ := hfd; exact ⟨es, h1, h2⟩
    have ek : ptD so (.tup es) = es := by rcases har with e | e <;> subst e <;> rfl
    obtain ⟨b2, zs, rfl, hb2, rz⟩ := Rep.tup_inv Ry
    have lz := rz.length
    refine tnx ?_
    dsimp only
    refine vK (aO ?_) fun qT => ?_
    ·refine ⟨_, rfl, .inl ⟨rfl, _, SqL.of l4⟩, _, rfl, l, b2, _, zs, rfl, rfl, l4, SqT.of (s4 _ _ (sG _ _ hb2)), by rw [sizeLine_eq]; omega, put zs (by rw [ek]; exact rz) (by omega)⟩
    ·rcases har with e | e
     ·exact ⟨_, rfl, rfl, _, rfl, bn (fun _ => qT) (fun h2 => absurd (decide_eq_true ((lZ so).mpr e)) h2)⟩
     ·refine ⟨_, rfl, rfl, _, rfl, bn (fun _ => qT) (fun _ => ⟨_, rfl, rfl, _, rfl, ?_⟩)⟩
      rw [decide_eq_true ((mN so).mpr e)]
      exact qT
   ·have na : so ≠ .a := fun e => har (.inl e)
    have nr : so ≠ .r := fun e => har (.inr e)
    refine tnx ⟨_, rfl, rfl, _, rfl, bn (fun h2 => absurd ((lZ so).mp (of_decide_eq_true h2)) na) (fun _ => ⟨_, rfl, rfl, _, rfl, ?_⟩)⟩
    rw [show decide (V.str (srt so) = V.str "things") = false from decide_eq_false fun h2 => nr ((mN so).mp h2)]
    refine aM (same ?_)
    cases so with
    | e => exact absurd rfl ne
    | a => exact absurd rfl na
    | r => exact absurd rfl nr
    | _ => rfl
 rintro σ H3 ⟨o2, o3, us, rfl, s3, ht3, l3, R3, lu⟩
 refine ⟨_, rfl, q H3 l us s3 hl l3 ?_⟩
 rw [List.length_map, Nat.min_eq_left (by omega), List.take_length, <- lds, List.take_length] at R3
 rw [parts_of hp]
 exact R3
theorem ij : aH ["thing", "shape", "sort", "given"] ["thing"] (ai de) := ⟨rfl, rfl, rfl, by decide +kernel, rfl, by decide +kernel, by decide +kernel⟩
theorem nb {f gS : Addr} {fd : FuncData} {k : Nat} (F : Fun K "is_node" "is_node" de f fd) (T : Txt K mg) (S : Shp P w K gS) (GS : mg "SHAPES" = some (.ref gS)) (Dhas_word : Def P w K mg base k "has_word" ["thing"] (spD eI)) (Dfits : Def P w K mg base k "fits" ["sort", "thing"] nS) : bi P w K mg base CX0 (k + 1) f fd ["thing"] (spS eG) := by
 have nd : (["thing", "shape", "sort", "given"] : List Str).Nodup := ij.nd
 refine F.ok ij (fun vs H Q E h => ?_) (fun cdv A outer s H vs Q E hr h => ?_)
 ·obtain ⟨v, d, rfl, _⟩ := h
  rfl
 obtain ⟨v, d, rfl, R, hsm, q⟩ := h
 obtain ⟨kvs, FS, hS, hS2⟩ := S.ex
 refine ⟨_, (@ae _ _ _ _ _ (@aN _ _ _ _ _ _ _ _ (@PW.pt _ _ _ (@cD _ _ _ _ _ _ _ (@bM _ _ _ _ (@bF _ _ _ (@au _ _ _ _ _ _ _ _ _ _ Dhas_word hr rfl (@aa _ _ _ _ _ (@pv _ 0 _ _ (by rfl) (by trivial) (by decide) (by decide)) (@ab _) (by rfl)) (by decide) (by rfl) (by rfl)) (by intro _; rfl))) (@cj _ _ _ _ (@ap _ _ _ _ _ _ _ _ (ju FS) (@ay _ _ _ _ _ _ _ aB (@pv _ 0 _ _ (by rfl) (by trivial) (by decide) (by decide)) (@ac _ _ _ _) (fun _ _ => rfl)) (@bG _ _ (.ref gS) _ _ rfl GS rfl (by decide)) (by with_unfolding_all rfl))))) (@ah _ _ _ (@ar _ _ _ _ (@bN _ _ _ _))) (@av _)) (@ae _ _ _ _ _ (@aJ _ _ (1) _ _ _ _ nd rfl (Or.inl rfl) (@pM _ _ _ _ _ _ _ _ FS (@bG _ _ (.ref gS) _ _ rfl GS rfl (by decide)) (@ay _ _ _ _ _ _ _ aB (@pv _ 0 _ _ (by rfl) (by trivial) (by decide) (by decide)) (@ac _ _ _ _) (fun _ _ => rfl)) (fun _ _ => rfl)) (by rfl) (by trivial)) (@ae _ _ _ _ _ (@aN _ _ _ _ _ _ _ _ (@ap _ _ _ _ _ _ _ _ fP (@ax _ _ _ _ _ _ _ _ _ aI rfl T.len (by decide +kernel) (@aa _ _ _ _ _ (@pv _ 0 _ _ (by rfl) (by trivial) (by decide) (by decide)) (@ab _) (by rfl)) (by decide) (by decide) (by rfl) (by rfl)) (@aA _ _ _ _ _ _ _ _ cV (@ax _ _ _ _ _ _ _ _ _ aI rfl T.len (by decide +kernel) (@aa _ _ _ _ _ (@pv _ 1 _ _ (by rfl) (by trivial) (by decide) (by decide)) (@ab _) (by rfl)) (by decide) (by decide) (by rfl) (by rfl)) (@ac _ _ _ _)) (aq _)) (@ah _ _ _ (@ar _ _ _ _ (@bN _ _ _ _))) (@av _)) (@ae _ _ _ _ _ (@cB _ _ _ _ _ _ _ _ PassesOwn.never rfl (@lT _ _ _ _ _ _ _ _ _ rfl T.zip (@aa _ _ _ _ _ (@pv _ 1 _ _ (by rfl) (by trivial) (by decide) (by decide)) (@aa _ _ _ _ _ (@bq _ _ _ _ _ _ _ _ _ _ oG (@pv _ 0 _ _ (by rfl) (by trivial) (by decide) (by decide)) (@bw _ _ _ (@ac _ _ _ _)) (@bI _)) (@ab _) (by rfl)) (by rfl)) (by rfl) (by rfl)) (@cW _ _ _ _ _ _ rfl (@aT _ _ _ _ _ (@aK _ _ (2) _ nd rfl (Or.inl rfl) (by trivial)) (@aT _ _ _ _ _ (@aK _ _ (3) _ nd rfl (Or.inl rfl) (by trivial)) (@cc _) (by rfl)) (by rfl)) (by rfl) (by rfl)) (@ah _ _ _ (@aN _ _ _ _ _ _ _ _ (@bM _ _ _ _ (@bF _ _ _ (@au _ _ _ _ _ _ _ _ _ _ Dfits hr rfl (@aa _ _ _ _ _ (@pv _ 2 _ _ (by rfl) (by trivial) (by decide) (by decide)) (@aa _ _ _ _ _ (@pv _ 3 _ _ (by rfl) (by trivial) (by decide) (by decide)) (@ab _) (by rfl)) (by rfl)) (by decide) (by rfl) (by rfl)) (by intro _; rfl))) (@ah _ _ _ (@ar _ _ _ _ (@bN _ _ _ _))) (@av _))) (by intro _; rfl)) (@ah _ _ _ (@ar _ _ _ _ (@wO _ _ _ _ _ _ _ (@bd _ _ _ _ _ _ _ _ fP (@ay _ _ _ _ _ _ _ aB (@pv _ 0 _ _ (by rfl) (by trivial) (by decide) (by decide)) (@ac _ _ _ _) (fun _ _ => rfl)) (@aD _ _ _ _) (aq _)) (@bH _ _ _ _ _ (@bd _ _ _ _ _ _ _ _ fP (@ay _ _ _ _ _ _ _ aB (@pv _ 0 _ _ (by rfl) (by trivial) (by decide) (by decide)) (@ac _ _ _ _) (fun _ _ => rfl)) (@ay _ _ _ _ _ _ _ aB (@pv _ 0 _ _ (by rfl) (by trivial) (by decide) (by decide)) (@ac _ _ _ _) (fun _ _ => rfl)) (aq _)))))))))), ?_⟩
 refine ⟨_, rfl, v, d, rfl, R, fun H1 s1 => ⟨_, rfl, ?_⟩⟩
 cases c0 : eI d with
 | false =>
  refine aO (aO ?_)
  have := q H1 s1
  rwa [qj c0] at this
 | true =>
  refine aM ?_
  obtain ⟨x, ds, rfl⟩ := fE c0
  obtain ⟨a, vs, rfl, ha, rs⟩ := Rep.tup_inv (R.mono s1)
  obtain ⟨y, ws, rfl, R0, ru⟩ := el rs
  obtain rfl : y = .str x := R0
  have lws := ru.length
  have hds : bb ds = true := by
   simp only [Dv.small, bb, Bool.and_eq_true] at hsm
   exact hsm.1.2
  refine ⟨_, rfl, a, _, 0, .str x, rfl, rfl, SqT.of ha, ak (j := 0) rfl, x, rfl, rfl, _, rfl, ?_⟩
  rw [hS2 x]
  show if xor true (eK x) = true then _ else _
  cases hw : eK x with
  | false =>
   refine aO ?_
   have := q H1 s1
   rwa [oK hw] at this
  | true =>
   refine aM ?_
   obtain ⟨p, hp, rfl⟩ := pI hw
   obtain ⟨b, hb, hbT⟩ := hS p hp
   have h5 := pA p hp
   refine ⟨_, rfl, a, _, 0, .str p.1, rfl, rfl, SqT.of ha, ak (j := 0) rfl, p.1, b, rfl, rfl, hb, ?_⟩
   refine ⟨_, rfl, a, _, rfl, .inr (SqT.of ha), _, rfl, b, _, rfl, .inr (hbT _), _, _, rfl, rfl, rfl, _, rfl, ?_⟩
   by_cases hl : ds.length = p.2.2.length
   ·rw [show (!decide (V.int (((V.str p.1 :: ws).length : Nat) : Int) = V.int ((((p.2.2.map fun s => V.str (srt s)).length : Nat) : Int) + 1))) = false by
     rw [List.length_cons, lws, hl, List.length_map, show ((p.2.2.length + 1 : Nat) : Int) = (p.2.2.length : Int) + 1 by omega, decide_eq_true rfl]; rfl]
    refine aM ?_
    refine ⟨_, rfl, _, rfl, 1, rfl, ?_⟩
    dsimp only [kW]
    refine pG ha fun H2 t s2 ht => ?_
    have ec : bc (V.str p.1 :: ws) (some 1) none = ws := dW (V.str p.1 :: ws) 1
    rw [ec] at ht
    have s02 := s1.trans s2
    refine ⟨b, t, rfl, ⟨_, hbT _⟩, ⟨_, SqT.of ht⟩, gQ (D := { nx := wm (xw (tOp rNe (tOp (sy K) (je 0) (tC (V.int 0))) (tC (V.str (Str.ofString "fold")))) (tOp rNe (tOp (sy K) (je 0) (tC (V.int 1))) (tOp (sy K) (je 0) (tC (V.int 3))))) { nx := fun x H' => Q V.non H', rt := Q }, rt := Q }) (xs := p.2.2.map fun s => V.str (srt s)) (ys := ws) (fun i σ H' => ∃ (o2 o3 : Option V), σ = [some (.ref a), some (.ref b), o2, o3] /\ ao H2 H' /\ okF p.2.2 ds = okF (p.2.2.drop i) (ds.drop i)) ⟨_, _, rfl, ao.refl _, rfl⟩ (fun i σ H' ⟨_, _, _, h, _⟩ => ⟨hbT _, SqT.of (h _ _ ht)⟩) ?T1 ?_⟩
    case T1 =>
     rintro i x y σ H3 t3 D1 gR gD hx hy ⟨o2, o3, rfl, s3, ok3⟩ hp3
     rw [List.getElem?_map] at hx
     obtain ⟨so, hso, rfl⟩ := Option.map_eq_some_iff.mp hx
     obtain ⟨d, hd, Ry⟩ := ru.get hy
     have q4 := af hp3 (.tup [.str (srt so), y])
     have ht4 : upd H3 t3 (.tup [.str (srt so), y]) t3 = some (.tup [.str (srt so), y]) := ad
     have s4 := s2.trans (s3.trans q4)
     have s24 := s3.trans q4
     generalize upd H3 t3 (.tup [.str (srt so), y]) = H4 at ht4 s4 s24 ⊢
     refine ⟨t3, _, rfl, SqT.of ht4, rfl, _, _, rfl, _, _, rfl, rfl, ?_⟩
     refine ⟨_, rfl, _, rfl, so, y, d, rfl, Ry.mono s4, dB hds hd, fun H5 s5 => ⟨_, rfl, ?_⟩⟩
     rw [rd hso hd] at ok3
     cases hfit : rM so d with
     | false =>
      refine aO ?_
      have := q H5 (s1.trans (s4.trans s5))
      rw [fS hp, ok3, hfit] at this
      exact gR _ _ this
     | true =>
      refine aM (gD _ _ ⟨_, _, rfl, s24.trans s5, ?_⟩)
      rw [ok3, hfit, Bool.true_and]
    rintro σ H3 ⟨o2, o3, rfl, s3, ok3⟩
    have okk : okF p.2.2 ds = true := by
     rw [ok3, List.length_map, Nat.min_eq_left (by omega), List.drop_length, <- hl, List.drop_length]
     rfl
    have s23 := s2.trans s3
    have qq := q H3 (s1.trans s23)
    rw [fS hp, okk, Bool.true_and] at qq
    refine ⟨_, rfl, a, _, 0, .str p.1, rfl, rfl, SqT.of (s23 _ _ ha), ak (j := 0) rfl, rfl, _, rfl, ?_⟩
    show if (!decide (V.str p.1 = V.str "fold")) = true then _ else _
    rw [bO]
    by_cases hf : p.1 = "fold"
    ·rw [decide_eq_true hf]
     refine aM ?_
     have hss := uk p hp hf
     rw [hss] at okk
     have l5 : ds.length = 5 := by rw [hl, hss]; rfl
     obtain ⟨d1, d2, d3, d4, d5, rfl⟩ := xV l5
     ·simp only [okF, rM, Bool.and_eq_true] at okk
      obtain ⟨x1, rfl⟩ := mR okk.1
      obtain ⟨x3, rfl⟩ := mR okk.2.2.1
      obtain ⟨u1, r1, rfl, R1, ru⟩ := el ru
      obtain ⟨u2, r2, rfl, R2, ru⟩ := el ru
      obtain ⟨u3, r3, rfl, R3, ru⟩ := el ru
      obtain rfl : u1 = .str x1 := R1
      obtain rfl : u3 = .str x3 := R3
      refine ⟨_, rfl, a, _, 1, .str x1, rfl, rfl, SqT.of (s23 _ _ ha), ak (j := 1) rfl, _, rfl, a, _, 3, .str x3, rfl, rfl, SqT.of (s23 _ _ ha), ak (j := 3) rfl, rfl, ?_⟩
      show Q (.bl (!decide (V.str x1 = V.str x3))) H3
      rw [bO]
      rw [show decide (p.1 ≠ "fold") = false from decide_eq_false (fun z => z hf), Bool.false_or] at qq
      have e : jy [.str x1, d2, .str x3, d4, d5] = !decide (x1 = x3) := by
       show decide (x1 ≠ x3) = _
       by_cases h : x1 = x3
       ·rw [decide_eq_true h, decide_eq_false (fun z => z h)]; rfl
       ·rw [decide_eq_false h, decide_eq_true h]; rfl
      rw [e] at qq
      exact qq
    ·rw [decide_eq_false hf]
     refine aO ?_
     rw [decide_eq_true hf, Bool.true_or] at qq
     exact qq
   ·rw [show (!decide (V.int (((V.str p.1 :: ws).length : Nat) : Int) = V.int ((((p.2.2.map fun s => V.str (srt s)).length : Nat) : Int) + 1))) = true by
     rw [decide_eq_false fun z => hl (by injection z with z; rw [List.length_cons, lws, List.length_map] at z; omega)]; rfl]
    refine aO ?_
    have := q H1 s1
    rw [fS hp] at this
    cases ho : okF p.2.2 ds with
    | true => exact absurd (jT ho) hl
    | false => rw [ho] at this; exact this
end
abbrev dm : Stmt := top 37
def exN : Nat -> Dv -> Nat
 | 0, _ => 99
 | n + 1, d => if eG d = true then 1 + ((cN d).map (exN n)).sum else 99
def ip : Sp := spS fun d => decide (exN 8 d <= 40)
theorem uD (n : Nat) (d : Dv) : 1 <= exN n d := by
 cases n with
 | zero => show 1 <= 99; decide
 | succ n => unfold exN; split <;> omega
def prD (p : Dv × Nat) : Dv := .tup [p.1, .int p.2]
def ik (ws : List (Dv × Nat)) : Nat := (ws.map fun p => exN (8 - p.2) p.1).sum
theorem mG (xs ys : List (Dv × Nat)) : ik (xs ++ ys) = ik xs + ik ys := by unfold ik; rw [List.map_append, List.sum_append]
theorem oo {ds : List Dv} (h : bb ds = true) : ∀ d ∈ ds, d.small = true := by
 induction ds with
 | nil => intro d hd; cases hd
 | cons x ds ih =>
  simp only [bb, Bool.and_eq_true] at h
  intro d hd
  rcases List.mem_cons.mp hd with rfl | hd
  ·exact h.1
  ·exact ih h.2 d hd
theorem dE {ds : List Dv} (h : (Dv.tup ds).small = true) : ∀ d ∈ ds, d.small = true := by
 simp only [Dv.small, Bool.and_eq_true] at h
 exact oo h.1
theorem gK {d : Dv} (h : d.small = true) : ∀ e ∈ oW d, e.small = true := by
 cases d with
 | tup ds => exact dE h
 | _ => intro e he; cases he
theorem jC : ∀ (ss : List So) (ds : List Dv), (∀ d ∈ ds, d.small = true) -> ∀ e ∈ bC ss ds, e.small = true
 | [], _, _, e, he => by simp [bC] at he
 | _ :: _, [], _, e, he => by simp [bC] at he
 | s :: ss, d :: ds, h, e, he => by
  rcases List.mem_append.mp (show e ∈ ptD s d ++ bC ss ds from he) with h1 | h1
  ·cases s with
   | e => rw [List.mem_singleton.mp h1]; exact h d List.mem_cons_self
   | a => exact gK (h d List.mem_cons_self) e h1
   | r => exact gK (h d List.mem_cons_self) e h1
   | _ => cases h1
  ·exact jC ss ds (fun x hx => h x (List.mem_cons_of_mem _ hx)) e h1
theorem mJ {d : Dv} (h : d.small = true) : ∀ e ∈ cN d, e.small = true := by
 match d, h with
 | .tup (.str w :: ds), h => exact jC _ ds fun x hx => dE h x (List.mem_cons_of_mem _ hx)
 | .tup [], _ => intro e he; cases he
 | .tup (.non :: r), _ => intro e he; cases he
 | .tup (.bl _ :: r), _ => intro e he; cases he
 | .tup (.int _ :: r), _ => intro e he; cases he
 | .tup (.tup _ :: r), _ => intro e he; cases he
 | .tup (.lst _ :: r), _ => intro e he; cases he
 | .tup (.dct :: r), _ => intro e he; cases he
 | .non, _ => intro e he; cases he
 | .bl _, _ => intro e he; cases he
 | .int _, _ => intro e he; cases he
 | .str _, _ => intro e he; cases he
 | .lst _, _ => intro e he; cases he
 | .dct, _ => intro e he; cases he
theorem mU {d : Dv} (h : wb d) : (cN d).length <= 4 := by
 obtain ⟨p, ds, hp, rfl, hf⟩ := h
 rw [XB.parts_of hp]
 exact Nat.le_trans (fi hf).2 (tR p hp)
section
variable {P : Program} {w : World} {K : PySem.W.Frag} {mg : Str -> Option Value} {base : Heap}
theorem ii : aH ["thing", "count", "waiting", "found", "node", "above"] ["thing"] (ai dm) := ⟨rfl, rfl, rfl, by decide +kernel, rfl, by decide +kernel, by decide +kernel⟩
theorem nQ {f : Addr} {fd : FuncData} {k : Nat} (F : Fun K "is_expression" "is_expression" dm f fd) (T : Txt K mg) (Dis_node : Def P w K mg base k "is_node" ["thing"] (spS eG)) (Dparts_of : Def P w K mg base k "parts_of" ["node"] jZ) : bi P w K mg base CX0 (k + 1) f fd ["thing"] ip := by
 have nd : (["thing", "count", "waiting", "found", "node", "above"] : List Str).Nodup := ii.nd
 refine F.ok ii (fun vs H Q E h => ?_) (fun cdv A outer s H vs Q E hr h => ?_)
 ·obtain ⟨v, d, rfl, _⟩ := h
  rfl
 obtain ⟨v, d, rfl, R, hsm, q⟩ := h
 replace q : ∀ (H' : Hp), ao H H' -> Q (V.bl (decide (exN 8 d <= 40))) H' := q
 refine ⟨_, (@ae _ _ _ _ _ (@aJ _ _ (1) _ _ _ _ nd rfl (Or.inl rfl) (@ac _ _ _ _) (by rfl) (by trivial)) (@ae _ _ _ _ _ (@aJ _ _ (2) _ _ _ _ nd rfl (Or.inl rfl) (@bp _ _ _ _ (@aa _ _ _ _ _ (@aX _ _ _ _ _ (@aa _ _ _ _ _ (@pv _ 0 _ _ (by rfl) (by trivial) (by decide) (by decide)) (@aa _ _ _ _ _ (@ac _ _ _ _) (@ab _) (by rfl)) (by rfl))) (@ab _) (by rfl))) (by rfl) (by trivial)) (@ae _ _ _ _ _ (@iM _ _ _ _ _ _ PassesOwn.never (@io _ _ _ (@pv _ 2 _ _ (by rfl) (by trivial) (by decide) (by decide)) (fun _ => rfl)) (@ae _ _ _ _ _ (@aJ _ _ (3) _ _ _ _ nd rfl (Or.inl rfl) (@eP _ _ _ _ _ _ _ _ _ PySem.F.plainAttrs_list PySem.F.slot_list_pop PySem.F.type_list_pop iz (@pv _ 2 _ _ (by rfl) (by trivial) (by decide) (by decide)) (by rfl) (by rfl)) (by rfl) (by trivial)) (@ae _ _ _ _ _ (@aJ _ _ (4) _ _ _ _ nd rfl (Or.inl rfl) (@ay _ _ _ _ _ _ _ aB (@pv _ 3 _ _ (by rfl) (by trivial) (by decide) (by decide)) (@ac _ _ _ _) (fun _ _ => rfl)) (by rfl) (by trivial)) (@ae _ _ _ _ _ (@aJ _ _ (5) _ _ _ _ nd rfl (Or.inr rfl) (@ay _ _ _ _ _ _ _ aB (@pv _ 3 _ _ (by rfl) (by trivial) (by decide) (by decide)) (@ac _ _ _ _) (fun _ _ => rfl)) (by rfl) (by trivial)) (@ae _ _ _ _ _ (@sM _ _ (1) _ _ _ _ _ _ nd rfl (Or.inl rfl) (@ac _ _ _ _) rP (by trivial)) (@ae _ _ _ _ _ (@aN _ _ _ _ _ _ _ _ (@PW.pt _ _ _ (@cD _ _ _ _ _ _ _ (@ap _ _ _ _ _ _ _ _ gH (@pv _ 1 _ _ (by rfl) (by trivial) (by decide) (by decide)) (T.g_MOST_NODES rfl) (aq _)) (@cD _ _ _ _ _ _ _ (@ap _ _ _ _ _ _ _ _ gH (@pv _ 5 _ _ (by rfl) (by trivial) (by decide) (by decide)) (T.g_MOST_ABOVE rfl) (aq _)) (@cj _ _ _ _ (@bM _ _ _ _ (@bF _ _ _ (@au _ _ _ _ _ _ _ _ _ _ Dis_node hr rfl (@aa _ _ _ _ _ (@pv _ 4 _ _ (by rfl) (by trivial) (by decide) (by decide)) (@ab _) (by rfl)) (by decide) (by rfl) (by rfl)) (by intro _; rfl))))))) (@ah _ _ _ (@ar _ _ _ _ (@bN _ _ _ _))) (@av _)) (@ah _ _ _ (@bt _ _ _ _ (@dX _ _ _ _ _ _ _ _ _ _ _ _ PySem.F.plainAttrs_list PySem.F.slot_list_extend PySem.F.type_list_extend gx (@pv _ 2 _ _ (by rfl) (by trivial) (by decide) (by decide)) (@aa _ _ _ _ _ (@ga _ _ (["part"]) ([5]) _ _ _ _ _ _ _ _ _ (@hV _ _ _ _ (@au _ _ _ _ _ _ _ _ _ _ Dparts_of hr rfl (@aa _ _ _ _ _ (@pv _ 4 _ _ (by rfl) (by trivial) (by decide) (by decide)) (@ab _) (by rfl)) (by decide) (by rfl) (by rfl))) (.of rfl) rfl (fun _ _ _ => aK (i := 0) (dG (l := ["part", "above"]) ((by decide +kernel)) rfl) rfl (Or.inl rfl)) (cz (by decide)) (fun _ _ _ => (@cx _)) (fun _ _ _ => (@aX _ _ _ _ _ (@aa _ _ _ _ _ (@pv _ 0 _ _ (by rfl) (by trivial) (by decide) (by decide)) (@aa _ _ _ _ _ (@aA _ _ _ _ _ _ _ _ cV (@pv _ 1 _ _ (by rfl) (by trivial) (by decide) (by decide)) (@ac _ _ _ _)) (@ab _) (by rfl)) (by rfl)))) (by intro _; rfl)) (@ab _) (by rfl)) (by rfl) (by rfl) (by rfl) (by rfl) (by rfl)) (by rfl))))))))) (@ah _ _ _ (@ar _ _ _ _ (@bN _ _ _ _)))))), ?_⟩
 refine ⟨_, rfl, z2, fun t0 ht0 => ⟨z1, fun W1 hW => ?_⟩⟩
 have q0 := af ht0 (.tup [v, .int 0])
 have q1 := af hW (.lst [.ref t0])
 have r0 : Rep (upd H t0 (.tup [v, .int 0])) (prD (d, 0)) (.ref t0) := by
  unfold prD
  rw [Rep]
  exact ⟨t0, _, rfl, ad, by simp only [aj]; exact ⟨_, _, rfl, R.mono q0, _, _, rfl, by simp only [Rep]; rfl, rfl⟩⟩
 refine mP (fun m σ H' => ∃ (o3 o4 o5 : Option V) (cnt : Nat) (ws : List (Dv × Nat)) (vs : List V), σ = [some v, some (.int cnt), some (.ref W1), o3, o4, o5] /\ ao H (bx H' W1) /\ H' W1 = some (.lst vs) /\ aj (bx H' W1) (ws.map prD) vs /\ (∀ p ∈ ws, p.1.small = true /\ p.2 <= 8) /\ (cnt + ik ws <= 40 ↔ exN 8 d <= 40) /\ m = 40 - cnt /\ cnt <= 40 /\ ws.length <= 1 + 4 * cnt) 40
  ⟨_, _, _, 0, [(d, 0)], [.ref t0], rfl, q0.trans (gk q1 hW), ad, bg (r0.mono (gk q1 hW)), fun p hp => by rw [List.mem_singleton.mp hp]; exact ⟨hsm, Nat.zero_le _⟩, by simp [ik], rfl, by decide, Nat.le_refl _⟩ ?_ fI
 rintro m σ H1 D1 gR gD ⟨o3, o4, o5, cnt, ws, vs, rfl, s1, w1, R1, sm, eq, rfl, c40, lw⟩
 have s01 : ao H H1 := s1.trans bW
 refine ⟨_, rfl, _, .inl ⟨vs, SqL.of w1, rfl⟩, ?_⟩
 by_cases ne : ws = []
 ·subst ne
  have e : vs = [] := by simpa only [List.map_nil, aj] using R1
  subst e
  refine aM ?_
  have := q H1 s01
  rw [decide_eq_true (eq.mp (by simpa [ik] using c40))] at this
  exact this
 ·obtain ⟨w0, x, rfl⟩ := fQ ne
  rw [List.map_append] at R1
  obtain ⟨v0, u, rfl, Ra, Ru⟩ := dl R1
  have e : (!(v0 ++ [u]).isEmpty) = true := by simp
  rw [e]
  refine aO ?_
  rw [mG] at eq
  have wx : ik [x] = exN (8 - x.2) x.1 := by simp [ik]
  rw [wx] at eq
  rw [List.length_append, List.length_singleton] at lw
  obtain ⟨smx, x8⟩ := sm x (by simp)
  refine ⟨_, rfl, .inl ⟨rfl, _, SqL.of w1⟩, W1, _, _, rfl, rfl, w1, eO _ _, ?_⟩
  rw [List.dropLast_concat]
  have t2 : ao (bx H1 W1) (bx (upd H1 W1 (.lst v0)) W1) := kf
  have w2 : upd H1 W1 (.lst v0) W1 = some (.lst v0) := ad
  have s02 : ao H _ := s1.trans (t2.trans bW)
  generalize upd H1 W1 (.lst v0) = H2 at t2 w2 s02 ⊢
  obtain ⟨t, us, rfl, ht, ru⟩ := Rep.tup_inv (show Rep (bx H1 W1) (.tup [x.1, .int x.2]) u from Ru)
  obtain ⟨y, z, rfl, Ry, Rz⟩ := aj.two ru
  obtain rfl : z = .int x.2 := Rz
  have ht2 := bW _ _ (t2 _ _ ht)
  have xp := uD (8 - x.2) x.1
  refine ⟨_, rfl, t, _, 0, y, rfl, rfl, SqT.of ht2, ak (j := 0) rfl, ?_⟩
  refine ⟨_, rfl, t, _, 1, .int x.2, rfl, rfl, SqT.of ht2, ak (j := 1) rfl, ?_⟩
  refine ⟨_, rfl, _, _, rfl, rfl, ?_⟩
  refine ⟨_, rfl, _, _, rfl, rfl, _, rfl, ?_⟩
  refine bn (fun h => ?_) (fun h => ?_)
  ·have h' : (40 : Int) < (cnt : Int) + 1 := of_decide_eq_true h
   have := q H2 s02
   rw [decide_eq_false (fun z => by have := eq.mpr z; omega)] at this
   exact aO (gR _ _ this)
  have h' : cnt + 1 <= 40 := by have z : ¬ ((40 : Int) < (cnt : Int) + 1) := of_decide_eq_false (Bool.eq_false_iff.mpr h); omega
  refine ⟨_, rfl, _, _, rfl, rfl, _, rfl, ?_⟩
  refine bn (fun h2 => ?_) (fun h2 => ?_)
  ·have h2' : (7 : Int) < (x.2 : Int) := of_decide_eq_true h2
   have := q H2 s02
   rw [decide_eq_false (fun z => by
    have := eq.mpr z
    rw [show 8 - x.2 = 0 by omega] at this
    have e99 : exN 0 x.1 = 99 := rfl
    omega)] at this
   exact aO (gR _ _ this)
  have h2' : x.2 <= 7 := by have z : ¬ ((7 : Int) < (x.2 : Int)) := of_decide_eq_false (Bool.eq_false_iff.mpr h2); omega
  obtain ⟨j, hj⟩ : ∃ j, 8 - x.2 = j + 1 := ⟨7 - x.2, by omega⟩
  refine ⟨_, rfl, y, x.1, rfl, Ry.mono (t2.trans bW), smx, fun H3 s3 => ⟨_, rfl, ?_⟩⟩
  have s03 := s02.trans s3
  cases c : eG x.1 with
  | false =>
   have := q H3 s03
   rw [decide_eq_false (fun z => by
    have := eq.mpr z
    have e99 : exN (8 - x.2) x.1 = 99 := by rw [hj]; unfold exN; rw [c]; rfl
    omega)] at this
   exact aO (gR _ _ this)
  | true =>
   refine aM ?_
   have w3 := s3 _ _ w2
   have t3 := t2.trans (bT (l := W1) s3)
   have hW3 : H3 W1 ≠ none := by rw [w3]; exact nofun
   have nn := qk c
   have p4 := mU nn
   have exj : exN (8 - x.2) x.1 = 1 + ((cN x.1).map (exN j)).sum := by rw [hj]; show (if eG x.1 = true then _ else _) = _; rw [c]; rfl
   refine tnx ⟨_, rfl, .inl ⟨rfl, _, SqL.of w3⟩, _, rfl, y, x.1, bx H3 W1, rfl, bW, Ry.mono t3, nn, fun H4 l ks s4 hl h4 R4 => ⟨l, rfl, ⟨_, SqL.of h4⟩, pf (xs := ks) (fun i ys H' => ao H4 H' /\ aj (bx H' W1) (((cN x.1).take i).map fun e => prD (e, x.2 + 1)) ys) ⟨ao.refl _, by simp [aj]⟩ (fun i ys H' _ p => SqL.of (p.1 _ _ h4)) ?_ ?_⟩⟩
   ·rintro i ys H5 pv hpv ⟨s5, R5⟩
    obtain ⟨e, he, Re⟩ := R4.get hpv
    have hi : i < (cN x.1).length := (List.getElem?_eq_some_iff.mp he).1
    refine cn ⟨_, rfl, _, rfl, _, _, rfl, rfl, z2, fun p hp => ⟨?_, s5.trans (af hp _), ?_⟩⟩
    ·rw [R5.length, List.length_map, List.length_take, sizeLine_eq]; omega
    ·have hW5 : H5 W1 ≠ none := by rw [s5 _ _ (s4 _ _ w3)]; exact nofun
     obtain ⟨e1, e2⟩ := qz (o := .tup [pv, .int ((x.2 : Int) + 1)]) hW5 hp
     rw [List.take_add_one, he, List.map_append]
     refine aj.append (R5.mono e2) ?_
     refine bg (show Rep _ (.tup [e, .int ((x.2 + 1 : Nat) : Int)]) (.ref p) from ?_)
     rw [Rep]
     refine ⟨p, _, rfl, e1, ?_⟩
     simp only [aj]
     exact ⟨_, _, rfl, (Re.mono (bT (s4.trans s5))).mono e2, _, _, rfl, by simp only [Rep]; rfl, rfl⟩
   ·rintro ys H5 ⟨s5, R5⟩ r hr'
    have q6 := af hr' (.lst ys)
    have lk := R4.length
    rw [lk, List.take_length] at R5
    have lys := R5.length
    rw [List.length_map] at lys
    have w5 := q6 _ _ (s5 _ _ (s4 _ _ w3))
    have lv := Ra.length
    rw [List.length_map] at lv
    refine ⟨W1, r, _, _, rfl, rfl, w5, ad, by rw [sizeLine_eq]; omega, ?_⟩
    have hW5 : H5 W1 ≠ none := by rw [s5 _ _ (s4 _ _ w3)]; exact nofun
    have t6 : ao (bx H5 W1) (bx (upd (upd H5 r (.lst ys)) W1 (.lst (v0 ++ ys))) W1) := (bT q6).trans kf
    have t16 := t3.trans ((bT (s4.trans s5)).trans t6)
    refine gD (40 - (cnt + 1)) _ _ (by omega) ⟨_, _, _, cnt + 1, w0 ++ (cN x.1).map fun e => (e, x.2 + 1), v0 ++ ys, rfl, s1.trans t16, ad, ?_, ?_, ?_, rfl, h', ?_⟩
    ·rw [List.map_append]
     refine aj.append (Ra.mono t16) ?_
     rw [List.map_map]
     exact R5.mono t6
    ·intro p hp
     rcases List.mem_append.mp hp with h1 | h1
     ·exact sm p (List.mem_append_left _ h1)
     ·obtain ⟨e, he, rfl⟩ := List.mem_map.mp h1
      exact ⟨mJ smx e he, by show x.2 + 1 <= 8; omega⟩
    ·rw [<- eq, mG, exj]
     have e7 : ik ((cN x.1).map fun e => (e, x.2 + 1)) = ((cN x.1).map (exN j)).sum := by
      unfold ik
      rw [List.map_map]
      congr 1
      refine List.map_congr_left fun e _ => ?_
      show exN (8 - (x.2 + 1)) e = exN j e
      rw [show 8 - (x.2 + 1) = j by omega]
     rw [e7]
     constructor <;> intro z <;> omega
    ·rw [List.length_append, List.length_map]; omega
end
theorem xH {x : Str} : aR (.tup [.str x]) = if x = "whole" then 1 else 99 := by rw [aR]
theorem xY {x : Str} {l : Dv} : aR (.tup [.str x, l]) = if x = "place" /\ slD l = true then 1 else 99 := by rw [aR]
theorem wT {x : Str} {a b : Dv} : aR (.tup [.str x, a, b]) = if x = "pair" then 1 + aR a + aR b else if x = "row" /\ slD a = true then 1 + aR b else 99 := by rw [aR]
def SL (c : Int) (ps : List Pr) : Prop := slD (bU c ps) = true /\ (bU c ps).small = true
theorem mj : ∀ {ps : List Pr} {l : Str}, ps.Pairwise (fun p q => p.1.cps.toList < q.1.cps.toList) -> (∀ p ∈ ps, 1 <= p.2) -> (∀ p ∈ ps, nmB p.1 = true) -> (∀ p ∈ ps, l.cps.toList < p.1.cps.toList) -> goD l (aV ps) = true
 | [], _, _, _, _, _ => rfl
 | p :: ps, l, h1, h2, h3, h4 => by
  have e : aV (p :: ps) = .tup [.str p.1, .int p.2] :: aV ps := rfl
  rw [e, goD]
  have h1' := List.pairwise_cons.mp h1
  show (eT _ && (decide (l.cps.toList < p.1.cps.toList) && goD p.1 (aV ps))) = true
  rw [mj h1'.2 (fun q hq => h2 q (List.mem_cons_of_mem _ hq)) (fun q hq => h3 q (List.mem_cons_of_mem _ hq)) (fun q hq => h1'.1 q hq)]
  show ((nmB p.1 && (true && decide (1 <= p.2))) && (decide (l.cps.toList < p.1.cps.toList) && true)) = true
  rw [h3 p List.mem_cons_self, decide_eq_true (h2 p List.mem_cons_self), decide_eq_true (h4 p List.mem_cons_self)]
  rfl
theorem fV : ∀ {ps : List Pr}, (∀ p ∈ ps, p.1.cps.size <= 8) -> bb (aV ps) = true
 | [], _ => rfl
 | p :: ps, h => by
  simp only [aV, List.map_cons, bb, Dv.small, Bool.and_eq_true, decide_eq_true_eq]
  refine ⟨⟨⟨by have := h p List.mem_cons_self; omega, trivial, trivial⟩, by simp⟩, fV fun q hq => h q (List.mem_cons_of_mem _ hq)⟩
theorem ke {x : Str} (h : nmB x = true) : 1 <= x.cps.size /\ x.cps.size <= 8 := by
 unfold nmB at h
 simp only [Bool.and_eq_true, decide_eq_true_eq] at h
 exact h.1
theorem rQ {x : Str} (h : nmB x = true) : (Str.ofString "").cps.toList < x.cps.toList := by
 have := (ke h).1
 have e : (Str.ofString "").cps.toList = [] := by decide +kernel
 rw [e]
 cases hx : x.cps.toList with
 | nil =>
  have : x.cps.toList.length = x.cps.size := by simp
  rw [hx] at this; simp at this; omega
 | cons c cs => exact List.nil_lt_cons c cs
theorem oC {c : Int} {ps : List Pr} (c0 : 0 <= c) (c1 : c <= 99) (can : mr ps) (hl : ps.length <= 900) (hn' : ∀ p ∈ ps, nmB p.1 = true /\ p.2 <= 99) : SL c ps := by
 constructor
 ·show ((true && (decide (0 <= c) && goD "" (aV ps))) && (decide (c <= 99) && (aV ps).all fun p => decide (fG p <= 99))) = true
  rw [mj can.1 can.2 (fun p hp => (hn' p hp).1) (fun p hp => rQ (hn' p hp).1), decide_eq_true c0, decide_eq_true c1]
  rw [show ((aV ps).all fun p => decide (fG p <= 99)) = true by
   rw [List.all_eq_true]
   intro d hd
   obtain ⟨p, hp, rfl⟩ := List.mem_map.mp hd
   exact decide_eq_true (hn' p hp).2]
  rfl
 ·have h8 : ∀ p ∈ ps, p.1.cps.size <= 8 := fun p hp => (ke (hn' p hp).1).2
  have h1 := fV h8
  have h2 : (Dv.tup (aV ps)).small = true := by
   simp only [Dv.small, h1, Bool.true_and]
   exact decide_eq_true (by rw [show (aV ps).length = ps.length from List.length_map _]; omega)
  show (Dv.tup [.int c, .tup (aV ps)]).small = true
  simp only [Dv.small, bb] at h2 ⊢
  simp only [h2, Bool.true_and, Bool.and_true]
  rfl
theorem bK {ds : List Dv} (h : ∀ d ∈ ds, d.small = true) (hl : ds.length <= 1000) : (Dv.tup ds).small = true := by
 have : ∀ ds : List Dv, (∀ d ∈ ds, d.small = true) -> bb ds = true := by
  intro ds
  induction ds with
  | nil => intro _; rfl
  | cons d ds ih => intro h; simp only [bb, Bool.and_eq_true]; exact ⟨h d List.mem_cons_self, ih fun e he => h e (List.mem_cons_of_mem _ he)⟩
 simp only [Dv.small, this ds h, Bool.true_and]
 exact decide_eq_true hl
theorem fX : ∀ {k : Kd}, k.All SL -> k.dv.small = true
 | .whole, _ => by decide +kernel
 | .place c ps, h => bK (fun d hd => by
   rcases List.mem_cons.mp hd with rfl | hd
   ·decide +kernel
   ·rw [List.mem_singleton.mp hd]; exact h.2) (by show 2 <= 1000; decide)
 | .row c ps k, h => bK (fun d hd => by
   rcases List.mem_cons.mp hd with rfl | hd
   ·decide +kernel
   ·rcases List.mem_cons.mp hd with rfl | hd
    ·exact h.1.2
    ·rw [List.mem_singleton.mp hd]; exact fX h.2) (by show 3 <= 1000; decide)
 | .pair i j, h => bK (fun d hd => by
   rcases List.mem_cons.mp hd with rfl | hd
   ·decide +kernel
   ·rcases List.mem_cons.mp hd with rfl | hd
    ·exact fX h.1
    ·rw [List.mem_singleton.mp hd]; exact fX h.2) (by show 3 <= 1000; decide)
theorem hX : ∀ {k : Kd}, k.All SL -> aR k.dv = k.size
 | .whole, _ => by show aR (.tup [.str "whole"]) = 1; rw [xH, if_pos rfl]
 | .place c ps, h => by show aR (.tup [.str "place", bU c ps]) = 1; rw [xY, if_pos ⟨rfl, h.1⟩]
 | .row c ps k, h => by show aR (.tup [.str "row", bU c ps, k.dv]) = k.size + 1; rw [wT, if_neg w6, if_pos ⟨rfl, h.1.1⟩, hX h.2]; omega
 | .pair i j, h => by show aR (.tup [.str "pair", i.dv, j.dv]) = i.size + j.size + 1; rw [wT, if_pos rfl, hX h.1, hX h.2]; omega
abbrev fe : Stmt := top 51
abbrev fA : Stmt := top 52
theorem le4 : 4 <= sizeLine := by rw [sizeLine_eq]; decide
def Dr (H : Hp) (a : Addr) (n : Nat) : Prop := ∃ ns : List Int, H a = some (.lst (ns.map V.int)) /\ ns.length = n /\ ∀ x ∈ ns, 0 <= x /\ x < 10 ^ 14
theorem Dr.b {H H' : Hp} {a b : Addr} {n : Nat} (h : Dr H a n) (s : aS b H H') (ne : a ≠ b) : Dr H' a n := let ⟨i, e, r⟩ := h; ⟨i, s _ _ ne e, r⟩
theorem Dr.m {H H' : Hp} {a : Addr} {n : Nat} (h : Dr H a n) (s : ao H H') : Dr H' a n := let ⟨i, e, r⟩ := h; ⟨i, s _ _ e, r⟩
theorem Dr.tups {H H' : Hp} {a : Addr} {n : Nat} (h : Dr H a n) (s : aS a H H') : dD H H' := let ⟨_, e, _⟩ := h; s.tups e
theorem Dr.some {H : Hp} {a : Addr} {n : Nat} (h : Dr H a n) : H a ≠ none := let ⟨_, e, _⟩ := h; fun z => by rw [e] at z; cases z
def ia (K : PySem.W.Frag) : Sp := fun vs H Q _ => ∃ (c : Addr) (m : Int) (cells : List Int), vs = [.ref c, .int m] /\ SqL K H c (cells.map V.int) /\ 1 <= cells.length /\ cells.length <= 9 /\ 0 <= m /\ m <= 1000 /\ ∀ (H' : Hp) (a : Addr), ao H H' -> H a = none -> Dr H' a m.toNat -> Q (.ref a) H'
def fB : Sp := fun vs H Q _ => ∃ (a : Addr) (n : Nat), vs = [.ref a] /\ Dr H a n /\ ∀ (H' : Hp) (x : Int), aS a H H' -> Dr H' a (n - 1) -> 0 <= x -> x < 10 ^ 14 -> Q (.int x) H'
section
variable {P : Program} {w : World} {K : PySem.W.Frag} {mg : Str -> Option Value} {base : Heap}
theorem mq : aH ["_law_cells", "_law_many", "_law_rests", "_law_found", "_law_k", "_law_j", "_law_number"] ["_law_cells", "_law_many"] (ai fe) := ⟨rfl, rfl, rfl, by decide +kernel, rfl, by decide +kernel, by decide +kernel⟩
theorem tJ {f : Addr} {fd : FuncData} (F : Fun K "_law_draws" "_law_draws" fe f fd) (T : Txt K mg) : bi P w K mg base CX0 1 f fd ["_law_cells", "_law_many"] (ia K) := by
 have nd : (["_law_cells", "_law_many", "_law_rests", "_law_found", "_law_k", "_law_j", "_law_number"] : List Str).Nodup := mq.nd
 refine F.ok mq (fun vs H Q E h => ?_) (fun cdv A outer s H vs Q E hr h => ?_)
 ·obtain ⟨c, m, cells, rfl, _⟩ := h
  rfl
 obtain ⟨c, m, cells, rfl, hS, l0, l9, m0, m1, q⟩ := h
 refine ⟨_, (@ae _ _ _ _ _ (@sk _ _ (["_law_cell"]) ([]) _ _ _ _ _ _ _ _ _ _ _ (2) _ nd rfl rfl (@hV _ _ _ _ (@pv _ 0 _ _ (by rfl) (by trivial) (by decide) (by decide))) (.of rfl) rfl (fun _ _ _ => aK (i := 0) (dG (l := ["_law_cell"]) ((by decide +kernel)) rfl) rfl (Or.inl rfl)) (cz (by decide)) (fun _ _ _ => (@cx _)) (fun _ _ _ => (@aA _ _ _ _ _ _ _ _ dC (@pv _ 0 _ _ (by rfl) (by trivial) (by decide) (by decide)) (@ac _ _ _ _))) (by rfl) (by intro _; rfl)) (@ae _ _ _ _ _ (@aJ _ _ (3) _ _ _ _ nd rfl (Or.inl rfl) (@bp _ _ _ _ (@ab _)) (by rfl) (by trivial)) (@ae _ _ _ _ _ (@cB _ _ _ _ _ _ _ _ PassesOwn.never rfl (@fb _ _ _ _ _ _ rfl T.range (@aa _ _ _ _ _ (@pv _ 1 _ _ (by rfl) (by trivial) (by decide) (by decide)) (@ab _) (by rfl)) (by rfl)) (@aK _ _ (4) _ nd rfl (Or.inl rfl) (by trivial)) (@ae _ _ _ _ _ (@aJ _ _ (5) _ _ _ _ nd rfl (Or.inl rfl) (@aA _ _ _ _ _ _ _ _ aW (@pv _ 4 _ _ (by rfl) (by trivial) (by decide) (by decide)) (@ax _ _ _ _ _ _ _ _ _ aI rfl T.len (by decide +kernel) (@aa _ _ _ _ _ (@pv _ 0 _ _ (by rfl) (by trivial) (by decide) (by decide)) (@ab _) (by rfl)) (by decide) (by decide) (by rfl) (by rfl))) (by rfl) (by trivial)) (@ah _ _ _ (@aN _ _ _ _ _ _ _ _ (@PW.pt _ _ _ (@fz _ _ _ _ _ _ _ (@ap _ _ _ _ _ _ _ _ aU (@aA _ _ _ _ _ _ _ _ aW (@ay _ _ _ _ _ _ _ br (@pv _ 0 _ _ (by rfl) (by trivial) (by decide) (by decide)) (@pv _ 5 _ _ (by rfl) (by trivial) (by decide) (by decide)) (fun _ _ => rfl)) (@ac _ _ _ _)) (@ac _ _ _ _) (aq _)) (@fU _ _ _ _ (@ap _ _ _ _ _ _ _ _ gH (@ay _ _ _ _ _ _ _ br (@pv _ 2 _ _ (by rfl) (by trivial) (by decide) (by decide)) (@pv _ 5 _ _ (by rfl) (by trivial) (by decide) (by decide)) (fun _ _ => rfl)) (@ac _ _ _ _) (aq _))))) (@ae _ _ _ _ _ (@bt _ _ _ _ (@dX _ _ _ _ _ _ _ _ _ _ _ _ PySem.F.plainAttrs_list PySem.F.slot_list_append PySem.F.type_list_append bZ (@pv _ 3 _ _ (by rfl) (by trivial) (by decide) (by decide)) (@aa _ _ _ _ _ (@aA _ _ _ _ _ _ _ _ aW (@ay _ _ _ _ _ _ _ br (@pv _ 2 _ _ (by rfl) (by trivial) (by decide) (by decide)) (@pv _ 5 _ _ (by rfl) (by trivial) (by decide) (by decide)) (fun _ _ => rfl)) (@aA _ _ _ _ _ _ _ _ jX (@ac _ _ _ _) (@ac _ _ _ _))) (@ab _) (by rfl)) (by rfl) (by rfl) (by rfl) (by rfl) (by rfl)) (by rfl)) (@ah _ _ _ (@wB _ _ _ _ _ _ (@aA _ _ _ _ _ _ _ _ dC (@ay _ _ _ _ _ _ _ br (@pv _ 2 _ _ (by rfl) (by trivial) (by decide) (by decide)) (@pv _ 5 _ _ (by rfl) (by trivial) (by decide) (by decide)) (fun _ _ => rfl)) (@aA _ _ _ _ _ _ _ _ jX (@ac _ _ _ _) (@ac _ _ _ _))) (@wg _ _ _ _ _ _ _ (@pv _ 2 _ _ (by rfl) (by trivial) (by decide) (by decide)) (@pv _ 5 _ _ (by rfl) (by trivial) (by decide) (by decide)) sY (by intro _; rfl)) (by rfl) (by rfl) (by rfl)))) (@ae _ _ _ _ _ (@aJ _ _ (6) _ _ _ _ nd rfl (Or.inl rfl) (@aA _ _ _ _ _ _ _ _ aW (@aA _ _ _ _ _ _ _ _ iH (@aA _ _ _ _ _ _ _ _ cV (@aA _ _ _ _ _ _ _ _ cV (@aA _ _ _ _ _ _ _ _ aW (@ay _ _ _ _ _ _ _ br (@pv _ 0 _ _ (by rfl) (by trivial) (by decide) (by decide)) (@pv _ 5 _ _ (by rfl) (by trivial) (by decide) (by decide)) (fun _ _ => rfl)) (@aA _ _ _ _ _ _ _ _ jX (@ac _ _ _ _) (@ac _ _ _ _))) (@aA _ _ _ _ _ _ _ _ iH (@ac _ _ _ _) (@pv _ 4 _ _ (by rfl) (by trivial) (by decide) (by decide)))) (@ac _ _ _ _)) (@ac _ _ _ _)) (@ac _ _ _ _)) (by rfl) (by trivial)) (@ah _ _ _ (@bt _ _ _ _ (@dX _ _ _ _ _ _ _ _ _ _ _ _ PySem.F.plainAttrs_list PySem.F.slot_list_append PySem.F.type_list_append bZ (@pv _ 3 _ _ (by rfl) (by trivial) (by decide) (by decide)) (@aa _ _ _ _ _ (@aA _ _ _ _ _ _ _ _ aW (@aA _ _ _ _ _ _ _ _ iH (@aA _ _ _ _ _ _ _ _ iH (@pv _ 6 _ _ (by rfl) (by trivial) (by decide) (by decide)) (@pv _ 6 _ _ (by rfl) (by trivial) (by decide) (by decide))) (@ac _ _ _ _)) (@ac _ _ _ _)) (@ab _) (by rfl)) (by rfl) (by rfl) (by rfl) (by rfl) (by rfl)) (by rfl))))))) (by intro _; rfl)) (@ah _ _ _ (@ar _ _ _ _ (@uE _ _ _ _ _ _ _ (@pv _ 3 _ _ (by rfl) (by trivial) (by decide) (by decide)) (@bw _ _ _ (@mI _ _ _ _ _ _ iu (@ac _ _ _ _))))))))), ?_⟩
 have p14 : uS 10 14 := ⟨by decide, by decide, by decide⟩
 have p30 : uS 10 30 := ⟨by decide, by decide, by decide⟩
 refine ⟨_, rfl, c, rfl, ⟨_, hS⟩, pf (xs := cells.map V.int) (fun i ys H' => H' = H /\ ∃ rs : List Int, ys = rs.map V.int /\ rs.length = i) ⟨rfl, [], rfl, rfl⟩ (fun i ys H' _ p => by rw [p.1]; exact hS) ?_ ?_⟩
 ·rintro i ys H' x hx ⟨rfl, rs, rfl, lr⟩
  have hi : i < 9 := by have := (List.getElem?_eq_some_iff.mp hx).1; rw [List.length_map] at this; omega
  rw [List.getElem?_map] at hx
  obtain ⟨y, _, rfl⟩ := Option.map_eq_some_iff.mp hx
  refine cn ⟨_, rfl, _, _, rfl, rfl, ⟨by decide, by decide⟩, ?_, rfl, rs ++ [y / 2], by simp, by simp [lr]⟩
  rw [List.length_map, sizeLine_eq]; omega
 rintro ys H1 ⟨rfl, rs, rfl, lr⟩ R hR
 rw [List.length_map] at lr
 refine ⟨Nat.zero_le _, fun Fo hF => ?_⟩
 have q1 := af hR (.lst (rs.map V.int))
 have q2 := af hF (.lst [])
 have hRF : R ≠ Fo := am (ad (H := H1) (a := R) (o := .lst (rs.map V.int))) hF
 have hFn : H1 Fo = none := q1.free hF
 have e1 := q2 _ _ (ad (H := H1) (a := R) (o := .lst (rs.map V.int)))
 have e2 : upd (upd H1 R (.lst (rs.map V.int))) Fo (.lst []) Fo = some (.lst []) := ad
 have s2 := q1.trans q2
 generalize upd (upd H1 R (.lst (rs.map V.int))) Fo (.lst []) = H2 at e1 e2 s2 ⊢
 refine ⟨_, rfl, m, rfl, by omega, by omega, gT (n := m.toNat) (fun i σ H' => ∃ (o4 o5 o6 : Option V) (rs ns : List Int), σ = [some (.ref c), some (.int m), some (.ref R), some (.ref Fo), o4, o5, o6] /\ ao H1 H' /\ H' R = some (.lst (rs.map V.int)) /\ rs.length = cells.length /\ H' Fo = some (.lst (ns.map V.int)) /\ ns.length = i /\ ∀ x ∈ ns, 0 <= x /\ x < 10 ^ 14) ⟨_, _, _, rs, [], rfl, s2, e1, lr, e2, rfl, by simp⟩ ?T1 ?_⟩
 case T1 =>
  rintro i σ H3 D1 gD hi ⟨o4, o5, o6, rs, ns, rfl, s3, r3, lr, f3, ln, hb⟩
  have ci : ∃ y, atI (cells.map V.int) ((0 + (i : Int)) % ((cells.map V.int).length : Int)) = some (.int y) /\ True := by
   obtain ⟨b0, b1⟩ := aY (a := (0 + (i : Int))) ((cells.map V.int).length : Int) (by rw [List.length_map]; omega)
   rw [List.length_map] at b0 b1 ⊢
   obtain ⟨v, hv⟩ := oQ (ns := cells) b0 b1
   exact ⟨v, hv, trivial⟩
  have ri : ∃ y, atI (rs.map V.int) ((0 + (i : Int)) % ((cells.map V.int).length : Int)) = some (.int y) := by
   obtain ⟨b0, b1⟩ := aY (a := (0 + (i : Int))) ((cells.map V.int).length : Int) (by rw [List.length_map]; omega)
   rw [List.length_map] at b0 b1 ⊢
   exact oQ (ns := rs) b0 (by omega)
  have rn : ∃ j, ixN (rs.map V.int).length ((0 + (i : Int)) % ((cells.map V.int).length : Int)) = some j := by
   obtain ⟨b0, b1⟩ := aY (a := (0 + (i : Int))) ((cells.map V.int).length : Int) (by rw [List.length_map]; omega)
   rw [List.length_map] at b0 b1
   rw [List.length_map, List.length_map]
   refine ⟨((0 + (i : Int)) % (cells.length : Int)).toNat, ?_⟩
   unfold ixN
   rw [if_pos b0, if_pos (by omega)]
  obtain ⟨y, hy, _⟩ := ci
  obtain ⟨z, hz⟩ := ri
  obtain ⟨j, hj⟩ := rn
  refine ⟨_, rfl, _, rfl, c, _, rfl, .inl (s3.seq hS), _, _, rfl, rfl, ?_, ?_⟩
  ·show (0 : Int) < ((cells.map V.int).length : Int)
   rw [List.length_map]; omega
  refine gnm ?_
  dsimp only
  generalize (0 + (i : Int)) % ((cells.map V.int).length : Int) = jj at hy hz hj
  have hRc : ∀ (H' : Hp) , aS R H3 H' -> ao H1 H' := fun H' s g o e => s g o (am e hR) (s3 g o e)
  refine oT True (fun _ => aO ?TT) (aM ?EE) (fun qT qF => ⟨_, rfl, _, rfl, c, _, jj, .int y, rfl, rfl, s3.seq hS, hy, _, _, rfl, rfl, (by show (0 : Int) < 2; decide), rfl, _, rfl, bn (fun _ => ⟨_, rfl, _, rfl, R, _, jj, .int z, rfl, rfl, SqL.of r3, hz, _, _, rfl, rfl, _, rfl, (by generalize decide ((0 : Int) < z) = b; cases b; exact qF; exact qT trivial)⟩) (fun _ => qF)⟩)
  case TT =>
   have m1 := aY (a := z) ((10 : Int) ^ (14 : Int).toNat) (by decide)
   refine ⟨_, rfl, .inl ⟨rfl, _, SqL.of f3⟩, _, rfl, _, rfl, R, _, jj, .int z, rfl, rfl, SqL.of r3, hz, _, _, rfl, rfl, p14, _, _, rfl, rfl, (by show (0 : Int) < 10 ^ (14 : Int).toNat; decide), Fo, _, _, rfl, rfl, f3, by rw [List.length_map, sizeLine_eq]; omega, ?_⟩
   have r4 : upd H3 Fo (.lst (ns.map V.int ++ [.int (z % 10 ^ (14 : Int).toNat)])) R = some (.lst (rs.map V.int)) := by rw [aE hRF]; exact r3
   refine ⟨_, rfl, _, rfl, R, _, jj, .int z, rfl, rfl, SqL.of r4, hz, _, _, rfl, rfl, p14, _, _, rfl, rfl, ⟨by decide, by decide⟩, _, rfl, _, rfl, R, _, jj, j, rfl, rfl, r4, hj, ?_⟩
   refine gD _ _ ⟨_, _, _, rs.set j (z / 10 ^ (14 : Int).toNat), ns ++ [z % 10 ^ (14 : Int).toNat], rfl, fun g o e => ?_, ?_, ?_, ?_, ?_, ?_⟩
   ·rw [aE (am e hR), aE (am e hFn)]; exact s3 g o e
   ·rw [ad, List.map_set]
   ·rw [List.length_set]; exact lr
   ·rw [aE (Ne.symm hRF), ad, List.map_append]; rfl
   ·rw [List.length_append, ln]; rfl
   ·intro x hx
    rcases List.mem_append.mp hx with h | h
    ·exact hb x h
    ·rw [List.mem_singleton.mp h]; exact m1
  case EE =>
   refine ⟨_, rfl, _, rfl, c, _, jj, .int y, rfl, rfl, s3.seq hS, hy, _, _, rfl, rfl, p30, _, _, rfl, rfl, (by show (0 : Int) < 10 ^ (30 : Int).toNat; decide), _, rfl, _, _, rfl, rfl, .inl ⟨by decide, by decide⟩, _, _, rfl, rfl, _, _, rfl, rfl, _, _, rfl, rfl, .inr ⟨by decide, by decide⟩, _, _, rfl, rfl, (by show (0 : Int) < 2147483647; decide), ?_⟩
   obtain ⟨u0, u1⟩ := aY (a := (y % 10 ^ (30 : Int).toNat + 7919 * (0 + (i : Int)) + 3) * 69621) 2147483647 (by decide)
   refine gnm ?_
   dsimp only
   generalize (y % 10 ^ (30 : Int).toNat + 7919 * (0 + (i : Int)) + 3) * 69621 % 2147483647 = u at u0 u1
   obtain ⟨v0, v1⟩ := aY (a := u * u * 48271) 99999999999973 (by decide)
   refine ⟨_, rfl, .inl ⟨rfl, _, SqL.of f3⟩, _, rfl, _, rfl, _, _, rfl, rfl, .inl ⟨by omega, by omega⟩, _, _, rfl, rfl, .inr ⟨by decide, by decide⟩, _, _, rfl, rfl, (by show (0 : Int) < 99999999999973; decide), Fo, _, _, rfl, rfl, f3, by rw [List.length_map, sizeLine_eq]; omega, ?_⟩
   refine gD _ _ ⟨_, _, _, rs, ns ++ [u * u * 48271 % 99999999999973], rfl, fun g o e => ?_, ?_, lr, ?_, ?_, ?_⟩
   ·rw [aE (am e hFn)]; exact s3 g o e
   ·rw [aE hRF]; exact r3
   ·rw [ad, List.map_append]; rfl
   ·rw [List.length_append, ln]; rfl
   ·intro x hx
    rcases List.mem_append.mp hx with h | h
    ·exact hb x h
    ·rw [List.mem_singleton.mp h]; exact ⟨v0, by omega⟩
 rintro σ H3 ⟨o4, o5, o6, rs, ns, rfl, s3, r3, lr, f3, ln, hb⟩
 refine ⟨_, rfl, 1, rfl, _, rfl, Fo, _, rfl, rfl, SqL.of f3, fun p hp => ?_⟩
 have q3 := af hp (.lst (ns.map V.int).reverse)
 refine q _ p (s3.trans q3) (s3.free hp) ⟨ns.reverse, by rw [ad, List.map_reverse], by rw [List.length_reverse]; exact ln, fun x hx => hb x (List.mem_reverse.mp hx)⟩
theorem ux : aH ["_law_draws_here"] ["_law_draws_here"] (ai fA) := ⟨rfl, rfl, rfl, by decide +kernel, rfl, by decide +kernel, by decide +kernel⟩
theorem tZ {f : Addr} {fd : FuncData} (F : Fun K "_law_next" "_law_next" fA f fd) (T : Txt K mg) : bi P w K mg base CX0 1 f fd ["_law_draws_here"] fB := by
 refine F.ok ux (fun vs H Q E h => ?_) (fun cdv A outer s H vs Q E hr h => ?_)
 ·obtain ⟨a, n, rfl, _⟩ := h
  rfl
 obtain ⟨a, n, rfl, ⟨ns, ha, ln, hb⟩, q⟩ := h
 have huL : (A.deeper (PyProof.Rows.envOfC "_law_next" (ai fA) s.heap.objs.size f cdv)).units < cLine := Nat.lt_of_le_of_lt (Nat.le_add_right _ 150) (iI hr)
 refine ⟨_, (@ae _ _ _ _ _ (@aN _ _ _ _ _ _ _ _ (@ap _ _ _ _ _ _ _ _ (nH huL) (@pv _ 0 _ _ (by rfl) (by trivial) (by decide) (by decide)) (@bp _ _ _ _ (@ab _)) (aq _)) (@ah _ _ _ (@ar _ _ _ _ (@ac _ _ _ _))) (@av _)) (@ah _ _ _ (@ar _ _ _ _ (@eP _ _ _ _ _ _ _ _ _ PySem.F.plainAttrs_list PySem.F.slot_list_pop PySem.F.type_list_pop iz (@pv _ 0 _ _ (by rfl) (by trivial) (by decide) (by decide)) (by rfl) (by rfl))))), ?_⟩
 refine ⟨_, rfl, Nat.zero_le _, fun e he => ⟨a, e, _, rfl, rfl, SqL.of (af he _ _ _ ha), SqL.of ad, _, rfl, ?_⟩⟩
 have q1 := af he (.lst [])
 generalize upd H e (.lst []) = H1 at q1 ⊢
 have h1 := q1 _ _ ha
 by_cases c : ns = []
 ·subst c
  refine aO (q H1 0 (ao.b a q1) ⟨[], h1, by rw [<- ln]; rfl, by simp⟩ (by decide) (by decide))
 ·obtain ⟨n0, x, rfl⟩ := fQ c
  rw [show (List.map V.int (n0 ++ [x])).isEmpty = false by simp]
  refine aM ⟨_, rfl, .inl ⟨rfl, _, SqL.of h1⟩, a, _, .int x, rfl, rfl, h1, by rw [List.map_append]; exact eO _ _, ?_⟩
  obtain ⟨x0, x1⟩ := hb x (by simp)
  refine q _ x ((ao.b a q1).trans (aS.upd _ _ _)) ⟨n0, ?_, ?_, fun y hy => hb y (List.mem_append_left _ hy)⟩ x0 x1
  ·rw [ad, List.map_append, List.map_cons, List.map_nil, List.dropLast_concat]
  ·rw [<- ln, List.length_append, List.length_singleton]; rfl
end
abbrev ff : Stmt := top 53
def zB (x : Str) : Prop := ∃ j, 1 <= j /\ x.cps.toList[j]? = some 122
structure Nms (xs : List Str) : Prop where
 len : xs.length = 5
 nm : ∀ x ∈ xs, nmB x = true
 nd : xs.Nodup
 z : ∀ x ∈ xs, zB x
def nmf (pre post : Str) (t : Int) (k : Nat) : Str := pre ++ ⟨#[97 + ((t + 5 * (k : Int)) % 26).toNat]⟩ ++ Str.ofString "z" ++ post
theorem wc : (Str.ofString "z").cps.toList = [122] := by decide +kernel
theorem lW (pre post : Str) (t : Int) (k : Nat) : (nmf pre post t k).cps.toList = pre.cps.toList ++ ((97 + ((t + 5 * (k : Int)) % 26).toNat) :: 122 :: post.cps.toList) := by
 unfold nmf
 rw [PySem.W.KT.app_list, PySem.W.KT.app_list, PySem.W.KT.app_list, wc]
 simp
theorem wI : Az (Str.ofString "z") 1 := ⟨by rw [wc]; rfl, fun c hc => by rw [wc, List.mem_singleton] at hc; rw [hc]; rfl⟩
theorem iy (t : Int) : azB (97 + (t % 26).toNat) = true := by
 obtain ⟨b0, b1⟩ := aY (a := t) 26 (by decide)
 unfold azB
 rw [decide_eq_true (by omega), decide_eq_true (by omega)]
 rfl
theorem tW {pre post : Str} {n m : Nat} (h1 : Az pre n) (h2 : Az post m) (h6 : n + m <= 6) (t : Int) : Nms ((List.range 5).map (nmf pre post t)) := by
 refine ⟨rfl, fun x hx => ?_, ?_, fun x hx => ?_⟩
 ·obtain ⟨k, _, rfl⟩ := List.mem_map.mp hx
  exact xr (gv (gv (gv h1 (iV (iy _))) wI) h2) (by omega) (by omega)
 ·have inj : ∀ i j : Nat, i < 5 -> j < 5 -> nmf pre post t i = nmf pre post t j -> i = j := fun i j hi hj e => by
   have e1 := congrArg (fun x : Str => x.cps.toList) e
   simp only [lW] at e1
   have e2 := List.append_cancel_left e1
   injection e2 with e3 _
   obtain ⟨b0, b1⟩ := aY (a := t + 5 * (i : Int)) 26 (by decide)
   obtain ⟨c0, c1⟩ := aY (a := t + 5 * (j : Int)) 26 (by decide)
   omega
  rw [List.nodup_iff_pairwise_ne]
  refine List.Pairwise.map (R := fun i j => i < 5 /\ j < 5 /\ i ≠ j) _ (fun i j h e => h.2.2 (inj i j h.1 h.2.1 e)) ?_
  decide
 ·obtain ⟨k, _, rfl⟩ := List.mem_map.mp hx
  refine ⟨n + 1, by omega, ?_⟩
  rw [lW, List.getElem?_append_right (by rw [h1.1]; omega), h1.1]
  simp
theorem pE {i : Int} (h0 : 0 <= i) (h1 : i < 26) : atI (Str.ofString "abcdefghijklmnopqrstuvwxyz").cps.toList i = some (97 + i.toNat) := by
 have h : ∀ j, j < 26 -> (Str.ofString "abcdefghijklmnopqrstuvwxyz").cps.toList[j]? = some (97 + j) := by decide +kernel
 have q := ak (h i.toNat (by omega))
 rwa [show ((i.toNat : Nat) : Int) = i by omega] at q
def kP : Sp := fun vs H Q _ => ∃ c : Int, vs = [.int c] /\ 0 <= c /\ ∀ (H' : Hp) (r : Addr) (xs : List Str), ao H H' -> H r = none -> H' r = some (.lst (xs.map V.str)) -> Nms xs -> Q (.ref r) H'
section
variable {P : Program} {w : World} {K : PySem.W.Frag} {mg : Str -> Option Value} {base : Heap}
theorem lG : aH ["_law_cell", "_law_some", "_law_stem", "_law_k", "_law_at"] ["_law_cell"] (ai ff) := ⟨rfl, rfl, rfl, by decide +kernel, rfl, by decide +kernel, by decide +kernel⟩
theorem tF {f : Addr} {fd : FuncData} (F : Fun K "_law_names" "_law_names" ff f fd) (T : Txt K mg) : bi P w K mg base CX0 1 f fd ["_law_cell"] kP := by
 have nd : (["_law_cell", "_law_some", "_law_stem", "_law_k", "_law_at"] : List Str).Nodup := lG.nd
 refine F.ok lG (fun vs H Q E h => ?_) (fun cdv A outer s H vs Q E hr h => ?_)
 ·obtain ⟨c, rfl, _⟩ := h
  rfl
 obtain ⟨c, rfl, c0, q⟩ := h
 refine ⟨_, (@ae _ _ _ _ _ (@aJ _ _ (1) _ _ _ _ nd rfl (Or.inr rfl) (@aD _ _ _ _) (by rfl) (by trivial)) (@ae _ _ _ _ _ (@aJ _ _ (2) _ _ _ _ nd rfl (Or.inr rfl) (@aD _ _ _ _) (by rfl) (by trivial)) (@ae _ _ _ _ _ (@cB _ _ _ _ _ _ _ _ PassesOwn.never rfl (@fb _ _ _ _ _ _ rfl T.range (@aa _ _ _ _ _ (@aA _ _ _ _ _ _ _ _ aW (@pv _ 0 _ _ (by rfl) (by trivial) (by decide) (by decide)) (@ac _ _ _ _)) (@ab _) (by rfl)) (by rfl)) (@aK _ _ (3) _ nd rfl (Or.inl rfl) (by trivial)) (@ah _ _ _ (@aJ _ _ (2) _ _ _ _ nd rfl (Or.inr rfl) (@aA _ _ _ _ _ _ _ _ dz (@pv _ 2 _ _ (by rfl) (by trivial) (by decide) (by decide)) (@ay _ _ _ _ _ _ _ mY (@pv _ 1 _ _ (by rfl) (by trivial) (by decide) (by decide)) (@aA _ _ _ _ _ _ _ _ aW (@aA _ _ _ _ _ _ _ _ dC (@pv _ 0 _ _ (by rfl) (by trivial) (by decide) (by decide)) (@ay _ _ _ _ _ _ _ br (@bp _ _ _ _ (@aa _ _ _ _ _ (@ac _ _ _ _) (@aa _ _ _ _ _ (@ac _ _ _ _) (@aa _ _ _ _ _ (@ac _ _ _ _) (@aa _ _ _ _ _ (@ac _ _ _ _) (@aa _ _ _ _ _ (@ac _ _ _ _) (@aa _ _ _ _ _ (@ac _ _ _ _) (@ab _) (by rfl)) (by rfl)) (by rfl)) (by rfl)) (by rfl)) (by rfl))) (@pv _ 3 _ _ (by rfl) (by trivial) (by decide) (by decide)) (fun _ _ => rfl))) (@ac _ _ _ _)) (fun _ _ => rfl))) (by rfl) (by trivial))) (by intro _; rfl)) (@ae _ _ _ _ _ (@aJ _ _ (4) _ _ _ _ nd rfl (Or.inr rfl) (@aA _ _ _ _ _ _ _ _ aW (@aA _ _ _ _ _ _ _ _ dC (@pv _ 0 _ _ (by rfl) (by trivial) (by decide) (by decide)) (@ac _ _ _ _)) (@aA _ _ _ _ _ _ _ _ cV (@ax _ _ _ _ _ _ _ _ _ fM rfl T.len (by decide +kernel) (@aa _ _ _ _ _ (@pv _ 2 _ _ (by rfl) (by trivial) (by decide) (by decide)) (@ab _) (by rfl)) (by decide) (by decide) (by rfl) (by rfl)) (@ac _ _ _ _))) (by rfl) (by trivial)) (@ah _ _ _ (@ar _ _ _ _ (@ga _ _ (["_law_k"]) ([0, 1, 2, 4]) _ _ _ _ _ _ _ _ _ (@fb _ _ _ _ _ _ rfl T.range (@aa _ _ _ _ _ (@ac _ _ _ _) (@ab _) (by rfl)) (by rfl)) (.of rfl) rfl (fun _ _ _ => aK (i := 0) (dG (l := ["_law_k", "_law_cell", "_law_some", "_law_stem", "_law_at"]) ((by decide +kernel)) rfl) rfl (Or.inl rfl)) (cz (by decide)) (fun _ _ _ => (@cx _)) (fun _ _ _ => (@aA _ _ _ _ _ _ _ _ dz (@aA _ _ _ _ _ _ _ _ dz (@aA _ _ _ _ _ _ _ _ dz (@bq _ _ _ _ _ _ _ _ _ _ tD (@pv _ 3 _ _ (by rfl) (by trivial) (by decide) (by decide)) (@bI _) (@bw _ _ _ (@pv _ 4 _ _ (by rfl) (by trivial) (by decide) (by decide)))) (@ay _ _ _ _ _ _ _ mY (@pv _ 2 _ _ (by rfl) (by trivial) (by decide) (by decide)) (@aA _ _ _ _ _ _ _ _ aW (@aA _ _ _ _ _ _ _ _ cV (@aA _ _ _ _ _ _ _ _ dC (@pv _ 1 _ _ (by rfl) (by trivial) (by decide) (by decide)) (@ac _ _ _ _)) (@aA _ _ _ _ _ _ _ _ iH (@ac _ _ _ _) (@pv _ 0 _ _ (by rfl) (by trivial) (by decide) (by decide)))) (@ac _ _ _ _)) (fun _ _ => rfl))) (@aD _ _ _ _)) (@bq _ _ _ _ _ _ _ _ _ _ tD (@pv _ 3 _ _ (by rfl) (by trivial) (by decide) (by decide)) (@bw _ _ _ (@pv _ 4 _ _ (by rfl) (by trivial) (by decide) (by decide))) (@bI _)))) (by intro _; rfl)))))))), ?_⟩
 have abc : (Str.ofString "abcdefghijklmnopqrstuvwxyz").length <= sizeLine := by rw [sizeLine_eq]; decide +kernel
 obtain ⟨m0, m1⟩ := aY (a := c) 7 (by decide)
 refine ⟨_, rfl, _, _, rfl, rfl, (by show (0 : Int) < 7; decide), _, rfl, by omega, by omega, gT (n := (c % 7).toNat) (fun i σ H' => ∃ (stem : Str) (o3 : Option V), σ = [some (.int c), some (.str "abcdefghijklmnopqrstuvwxyz"), some (.str stem), o3, none] /\ ao H H' /\ Az stem i) ⟨_, _, rfl, ao.refl _, rB⟩ ?T1 ?_⟩
 case T1 =>
  rintro i σ H2 D1 gD hi ⟨stem, o1, rfl, s2, az⟩
  have h6 : ∃ d, atI [V.int 7, .int 182, .int 4732, .int 123032, .int 3198832, .int 83169632] (0 + (i : Int)) = some (.int d) /\ 0 < d /\ d < 10 ^ 60 := by
   have e : i = 0 \/ i = 1 \/ i = 2 \/ i = 3 \/ i = 4 \/ i = 5 := by omega
   rcases e with e | e | e | e | e | e <;> subst e
   ·exact ⟨_, rfl, by decide, by decide⟩
   ·exact ⟨_, rfl, by decide, by decide⟩
   ·exact ⟨_, rfl, by decide, by decide⟩
   ·exact ⟨_, rfl, by decide, by decide⟩
   ·exact ⟨_, rfl, by decide, by decide⟩
   ·exact ⟨_, rfl, by decide, by decide⟩
  obtain ⟨d, hd, d0, d1⟩ := h6
  obtain ⟨b0, b1⟩ := aY (a := c / d) 26 (by decide)
  refine ⟨_, rfl, _, rfl, _, rfl, (by show 6 <= sizeLine; rw [sizeLine_eq]; decide), fun p hp => ⟨_, rfl, p, _, _, .int d, rfl, rfl, SqL.of ad, hd, _, _, rfl, rfl, ⟨d0, d1⟩, _, _, rfl, rfl, (by show (0 : Int) < 26; decide), _, _, _, rfl, rfl, abc, pE b0 b1, _, _, rfl, rfl, ?_, ?_⟩⟩
  ·rw [az.len, (iV (iy _)).len, sizeLine_eq]; omega
  ·exact gD _ _ ⟨_, _, rfl, s2.trans (af hp _), gv az (iV (iy _))⟩
 rintro σ H2 ⟨stem, o1, rfl, s2, az⟩
 have ln := az.len
 have stl : stem.length <= sizeLine := by rw [ln, sizeLine_eq]; omega
 refine ⟨_, rfl, _, _, rfl, rfl, ⟨by decide, by decide⟩, _, rfl, _, rfl, stl, _, _, rfl, rfl, _, _, rfl, rfl, (by show (0 : Int) < (stem.length : Int) + 1; omega), ?_⟩
 obtain ⟨y0, y1⟩ := aY (a := c / 2162410432) ((stem.length : Int) + 1) (by omega)
 refine gnm ?_
 dsimp only
 generalize c / 2162410432 % ((stem.length : Int) + 1) = y at y0 y1
 have at1 : y <= (c % 7).toNat := by rw [ln] at y1; omega
 have zf := tT az y0 at1
 have zt := xl az y0 at1
 refine ⟨_, rfl, by decide, by decide, sR (lo := 0) (n := 5) (fun i ys H' => H' = H2 /\ ys = ((List.range i).map (nmf (Txt.slice stem none (some y)) (Txt.slice stem (some y) none) (c / 15136873024))).map V.str) ⟨rfl, rfl⟩ ?_ ?_⟩
 ·rintro i ys H5 hi ⟨rfl, rfl⟩
  obtain ⟨b0, b1⟩ := aY (a := c / 15136873024 + 5 * ((0 : Int) + (i : Int))) 26 (by decide)
  have e1 := gv zt (iV (iy (c / 15136873024 + 5 * ((0 : Int) + (i : Int)))))
  have e2 := gv e1 wI
  refine cn ⟨_, rfl, _, rfl, _, rfl, _, rfl, stl, _, rfl, _, rfl, _, _, rfl, rfl, ⟨by decide, by decide⟩, _, rfl, _, _, rfl, rfl, .inl ⟨by decide, by decide⟩, _, _, rfl, rfl, _, _, rfl, rfl, (by show (0 : Int) < 26; decide), _, _, _, rfl, rfl, abc, pE b0 b1, _, _, rfl, rfl, ?_, _, _, rfl, rfl, ?_, _, rfl, _, rfl, _, rfl, _, rfl, stl, _, _, rfl, rfl, ?_, ?_, rfl, ?_⟩
  ·rw [zt.len, (iV (iy _)).len, sizeLine_eq]; omega
  ·rw [e1.len, wI.len, sizeLine_eq]; omega
  ·rw [e2.len, zf.len, sizeLine_eq]; omega
  ·rw [List.length_map, List.length_map, List.length_range, sizeLine_eq]; omega
  ·rw [List.range_succ, List.map_append, List.map_append]
   rw [show (0 : Int) + (i : Int) = (i : Int) by omega]
   rfl
 ·rintro ys H5 ⟨rfl, rfl⟩ r hr'
  exact q _ r _ (s2.trans (af hr' _)) (s2.free hr') ad (tW zt zf (by omega) _)
end
abbrev ck : Stmt := top 20
abbrev cL : Stmt := top 22
abbrev cq : Stmt := top 23
def mx : Sp := fun vs H Q _ => ∃ (v : V) (k : Kd), vs = [v] /\ Rep H k.dv v /\ ∀ (H' : Hp) (l : Addr) (us : List V), ao H H' -> H l = none -> H' l = some (.lst us) -> aj H' (k.kids.map Kd.dv) us -> Q (.ref l) H'
def lb : Sp := fun vs H Q _ => ∃ (v : V) (k : Kd), vs = [v] /\ Rep H k.dv v /\ ∀ u, Rep H (qV k.len?) u -> Q u H
def gu (fT : Addr) : Sp := fun vs H Q _ => ∃ (v : V) (k : Kd), vs = [v, .ref fT] /\ Rep H k.dv v /\ k.size <= 40 /\ ∀ (H' : Hp) (l : Addr) (us : List V), ao H H' -> H l = none -> H' l = some (.lst us) -> aj H' (k.pts.map Kd.dv) us -> Q (.ref l) H'
def fw : Sp := fun vs H Q _ => ∃ (v : V) (k : Kd), vs = [v] /\ Rep H k.dv v /\ k.size <= 40 /\ ∀ (H' : Hp) (l : Addr) (us : List V), ao H H' -> H l = none -> H' l = some (.lst us) -> aj H' (k.pts.map Kd.dv) us -> Q (.ref l) H'
section
variable {P : Program} {w : World} {K : PySem.W.Frag} {mg : Str -> Option Value} {base : Heap}
theorem kD : aH ["point"] ["point"] (ai bD) := ⟨rfl, rfl, rfl, by decide +kernel, rfl, by decide +kernel, by decide +kernel⟩
theorem kY {f : Addr} {fd : FuncData} (F : Fun K "things_of" "things_of" bD f fd) (T : Txt K mg) : bi P w K mg base CX0 1 f fd ["point"] mx := by
 refine F.ok kD (fun vs H Q E h => ?_) (fun cdv A outer s H vs Q E hr h => ?_)
 ·obtain ⟨v, k, rfl, _⟩ := h
  rfl
 obtain ⟨v, k, rfl, R, q⟩ := h
 refine ⟨_, (@ae _ _ _ _ _ (@aN _ _ _ _ _ _ _ _ (@ap _ _ _ _ _ _ _ _ aU (@ay _ _ _ _ _ _ _ aB (@pv _ 0 _ _ (by rfl) (by trivial) (by decide) (by decide)) (@ac _ _ _ _) (fun _ _ => rfl)) (@aD _ _ _ _) (aq _)) (@ah _ _ _ (@ar _ _ _ _ (@bp _ _ _ _ (@aa _ _ _ _ _ (@ay _ _ _ _ _ _ _ aB (@pv _ 0 _ _ (by rfl) (by trivial) (by decide) (by decide)) (@ac _ _ _ _) (fun _ _ => rfl)) (@ab _) (by rfl))))) (@av _)) (@ae _ _ _ _ _ (@aN _ _ _ _ _ _ _ _ (@ap _ _ _ _ _ _ _ _ aU (@ay _ _ _ _ _ _ _ aB (@pv _ 0 _ _ (by rfl) (by trivial) (by decide) (by decide)) (@ac _ _ _ _) (fun _ _ => rfl)) (@aD _ _ _ _) (aq _)) (@ah _ _ _ (@ar _ _ _ _ (@bp _ _ _ _ (@aa _ _ _ _ _ (@ay _ _ _ _ _ _ _ aB (@pv _ 0 _ _ (by rfl) (by trivial) (by decide) (by decide)) (@ac _ _ _ _) (fun _ _ => rfl)) (@aa _ _ _ _ _ (@ay _ _ _ _ _ _ _ aB (@pv _ 0 _ _ (by rfl) (by trivial) (by decide) (by decide)) (@ac _ _ _ _) (fun _ _ => rfl)) (@ab _) (by rfl)) (by rfl))))) (@av _)) (@ah _ _ _ (@ar _ _ _ _ (@bp _ _ _ _ (@ab _)))))), ?_⟩
 obtain ⟨a, vs, rfl, ha, hv⟩ := Kd.inv R
 refine ⟨_, rfl, a, _, 0, .str k.word, rfl, rfl, SqT.of ha, ak (j := 0) rfl, rfl, _, rfl, ?_⟩
 cases k with
 | whole =>
  refine bn (fun h => absurd (of_decide_eq_true h) (wne xB)) (fun _ => ⟨_, rfl, a, _, 0, .str "whole", rfl, rfl, SqT.of ha, ak (j := 0) rfl, rfl, _, rfl, bn (fun h => absurd (of_decide_eq_true h) (wne ye)) (fun _ => ⟨Nat.zero_le _, fun l hl => ?_⟩)⟩)
  exact q _ l [] (af hl _) hl ad (by simp only [Kd.kids, List.map_nil, aj])
 | place c ps =>
  refine bn (fun h => absurd (of_decide_eq_true h) (wne xa)) (fun _ => ⟨_, rfl, a, _, 0, .str "place", rfl, rfl, SqT.of ha, ak (j := 0) rfl, rfl, _, rfl, bn (fun h => absurd (of_decide_eq_true h) (wne wN)) (fun _ => ⟨Nat.zero_le _, fun l hl => ?_⟩)⟩)
  exact q _ l [] (af hl _) hl ad (by simp only [Kd.kids, List.map_nil, aj])
 | row c ps j =>
  obtain ⟨l1, u, rfl, _, Ru⟩ := hv
  refine bn (fun _ => ⟨_, rfl, a, _, 2, u, rfl, rfl, SqT.of ha, ak (j := 2) rfl, z1, fun l hl => ?_⟩) (fun h => absurd (decide_eq_true rfl) h)
  exact q _ l [u] (af hl _) hl ad (bg (Ru.mono (af hl _)))
 | pair i j =>
  obtain ⟨u, w', rfl, Ru, Rw⟩ := hv
  refine bn (fun h => absurd (of_decide_eq_true h) (wne (Ne.symm xK))) (fun _ => ⟨_, rfl, a, _, 0, .str "pair", rfl, rfl, SqT.of ha, ak (j := 0) rfl, rfl, _, rfl, bn (fun _ => ⟨_, rfl, a, _, 1, u, rfl, rfl, SqT.of ha, ak (j := 1) rfl, _, rfl, a, _, 2, w', rfl, rfl, SqT.of ha, ak (j := 2) rfl, z2, fun l hl => ?_⟩) (fun h => absurd (decide_eq_true rfl) h)⟩)
  exact q _ l [u, w'] (af hl _) hl ad (aj.append (bg (Ru.mono (af hl _))) (bg (Rw.mono (af hl _))))
theorem kF : aH ["point"] ["point"] (ai ck) := ⟨rfl, rfl, rfl, by decide +kernel, rfl, by decide +kernel, by decide +kernel⟩
theorem kw {f : Addr} {fd : FuncData} (F : Fun K "length_at" "length_at" ck f fd) (T : Txt K mg) : bi P w K mg base CX0 1 f fd ["point"] lb := by
 refine F.ok kF (fun vs H Q E h => ?_) (fun cdv A outer s H vs Q E hr h => ?_)
 ·obtain ⟨v, k, rfl, _⟩ := h
  rfl
 obtain ⟨v, k, rfl, R, q⟩ := h
 refine ⟨_, (@ae _ _ _ _ _ (@aN _ _ _ _ _ _ _ _ (@PW.pt _ _ _ (@cD _ _ _ _ _ _ _ (@ap _ _ _ _ _ _ _ _ aU (@ay _ _ _ _ _ _ _ aB (@pv _ 0 _ _ (by rfl) (by trivial) (by decide) (by decide)) (@ac _ _ _ _) (fun _ _ => rfl)) (@aD _ _ _ _) (aq _)) (@cj _ _ _ _ (@ap _ _ _ _ _ _ _ _ aU (@ay _ _ _ _ _ _ _ aB (@pv _ 0 _ _ (by rfl) (by trivial) (by decide) (by decide)) (@ac _ _ _ _) (fun _ _ => rfl)) (@aD _ _ _ _) (aq _))))) (@ah _ _ _ (@ar _ _ _ _ (@ay _ _ _ _ _ _ _ aB (@pv _ 0 _ _ (by rfl) (by trivial) (by decide) (by decide)) (@ac _ _ _ _) (fun _ _ => rfl)))) (@av _)) (@ah _ _ _ (@ar _ _ _ _ (@nY _ _ _)))), ?_⟩
 obtain ⟨a, vs, rfl, ha, hv⟩ := Kd.inv R
 refine ⟨_, rfl, a, _, 0, .str k.word, rfl, rfl, SqT.of ha, ak (j := 0) rfl, rfl, _, rfl, ?_⟩
 cases k with
 | whole =>
  refine bn (fun h => absurd (of_decide_eq_true h) (wne yh)) (fun _ => ⟨_, rfl, a, _, 0, .str "whole", rfl, rfl, SqT.of ha, ak (j := 0) rfl, rfl, _, rfl, bn (fun h => absurd (of_decide_eq_true h) (wne xB)) (fun _ => ?_)⟩)
  exact q .non (by simp only [Kd.len?, qV, Rep])
 | place c ps =>
  obtain ⟨l1, rfl, Rl⟩ := hv
  exact bn (fun _ => aO ⟨_, rfl, a, _, 1, l1, rfl, rfl, SqT.of ha, ak (j := 1) rfl, q l1 Rl⟩) (fun h => absurd (decide_eq_true rfl) h)
 | row c ps j =>
  obtain ⟨l1, u, rfl, Rl, Ru⟩ := hv
  refine bn (fun h => absurd (of_decide_eq_true h) (wne (Ne.symm xa))) (fun _ => ⟨_, rfl, a, _, 0, .str "row", rfl, rfl, SqT.of ha, ak (j := 0) rfl, rfl, _, rfl, bn (fun _ => ⟨_, rfl, a, _, 1, l1, rfl, rfl, SqT.of ha, ak (j := 1) rfl, q l1 Rl⟩) (fun h => absurd (decide_eq_true rfl) h)⟩)
 | pair i j =>
  refine bn (fun h => absurd (of_decide_eq_true h) (wne (Ne.symm wN))) (fun _ => ⟨_, rfl, a, _, 0, .str "pair", rfl, rfl, SqT.of ha, ak (j := 0) rfl, rfl, _, rfl, bn (fun h => absurd (of_decide_eq_true h) (wne (Ne.symm xK))) (fun _ => ?_)⟩)
  exact q .non (by simp only [Kd.len?, qV, Rep])
theorem gE : aH ["whole", "parts_of", "points", "waiting", "point"] ["whole", "parts_of"] (ai cL) := ⟨rfl, rfl, rfl, by decide +kernel, rfl, by decide +kernel, by decide +kernel⟩
theorem ma {f fT : Addr} {fd fdT : FuncData} {k0 : Nat} (F : Fun K "in_order" "in_order" cL f fd) (T : Txt K mg) (FV : bi P w K mg base CX0 k0 fT fdT ["point"] mx) (KV : PySem.W.keepIn K (.ref fT) = true) (BV : gU K fdT ["point"] []) : bi P w K mg base CX0 (k0 + 1) f fd ["whole", "parts_of"] (gu fT) := by
 have nd : (["whole", "parts_of", "points", "waiting", "point"] : List Str).Nodup := gE.nd
 refine F.ok gE (fun vs H Q E h => ?_) (fun cdv A outer s H vs Q E hr h => ?_)
 ·obtain ⟨v, k, rfl, _⟩ := h
  rfl
 obtain ⟨v, k, rfl, R, k40, q⟩ := h
 refine ⟨_, (@ae _ _ _ _ _ (@aJ _ _ (2) _ _ _ _ nd rfl (Or.inl rfl) (@bp _ _ _ _ (@ab _)) (by rfl) (by trivial)) (@ae _ _ _ _ _ (@aJ _ _ (3) _ _ _ _ nd rfl (Or.inl rfl) (@bp _ _ _ _ (@aa _ _ _ _ _ (@pv _ 0 _ _ (by rfl) (by trivial) (by decide) (by decide)) (@ab _) (by rfl))) (by rfl) (by trivial)) (@ae _ _ _ _ _ (@iM _ _ _ _ _ _ PassesOwn.never (@io _ _ _ (@pv _ 3 _ _ (by rfl) (by trivial) (by decide) (by decide)) (fun _ => rfl)) (@ae _ _ _ _ _ (@aJ _ _ (4) _ _ _ _ nd rfl (Or.inl rfl) (@eP _ _ _ _ _ _ _ _ _ PySem.F.plainAttrs_list PySem.F.slot_list_pop PySem.F.type_list_pop iz (@pv _ 3 _ _ (by rfl) (by trivial) (by decide) (by decide)) (by rfl) (by rfl)) (by rfl) (by trivial)) (@ae _ _ _ _ _ (@bt _ _ _ _ (@dX _ _ _ _ _ _ _ _ _ _ _ _ PySem.F.plainAttrs_list PySem.F.slot_list_append PySem.F.type_list_append bZ (@pv _ 2 _ _ (by rfl) (by trivial) (by decide) (by decide)) (@aa _ _ _ _ _ (@pv _ 4 _ _ (by rfl) (by trivial) (by decide) (by decide)) (@ab _) (by rfl)) (by rfl) (by rfl) (by rfl) (by rfl) (by rfl)) (by rfl)) (@ah _ _ _ (@bt _ _ _ _ (@dX _ _ _ _ _ _ _ _ _ _ _ _ PySem.F.plainAttrs_list PySem.F.slot_list_extend PySem.F.type_list_extend gx (@pv _ 3 _ _ (by rfl) (by trivial) (by decide) (by decide)) (@aa _ _ _ _ _ (@on _ _ _ _ _ _ _ rfl T.list rfl T.reversed rfl (@sv _ _ _ _ _ _ _ _ _ _ _ _ 1 FV hr KV BV (@aa _ _ _ _ _ (@pv _ 4 _ _ (by rfl) (by trivial) (by decide) (by decide)) (@ab _) (by rfl)) (by rfl) (by trivial) (by decide) (by decide) (by rfl) (by rfl)) (by rfl) (by rfl)) (@ab _) (by rfl)) (by rfl) (by rfl) (by rfl) (by rfl) (by rfl)) (by rfl)))))) (@ah _ _ _ (@ar _ _ _ _ (@pv _ 2 _ _ (by rfl) (by trivial) (by decide) (by decide))))))), ?_⟩
 refine ⟨Nat.zero_le _, fun P1 hP => ?_⟩
 refine ⟨_, rfl, z1, fun W1 hW => ?_⟩
 have q1 := af hP (.lst [])
 have q2 := af hW (.lst [v])
 have hPW : P1 ≠ W1 := am (ad (H := H) (a := P1) (o := .lst [])) hW
 have hWn : H W1 = none := q1.free hW
 refine oP (fun m σ H' => ∃ (o4 : Option V) (dn ws : List Kd) (us vs : List V), σ = [some v, some (.ref fT), some (.ref P1), some (.ref W1), o4] /\ ao H H' /\ H' P1 = some (.lst us) /\ H' W1 = some (.lst vs) /\ aj H' (dn.map Kd.dv) us /\ aj H' (ws.map Kd.dv) vs /\ k.pts = dn ++ ws.reverse.flatMap Kd.pts /\ m = (ws.map Kd.size).sum /\ m <= 40) k.size
  ⟨_, [], [k], [], [v], rfl, q1.trans q2, q2 _ _ ad, ad, by simp only [List.map_nil, aj], bg ((R.mono q1).mono q2), by simp, by simp, k40⟩ ?_ fI
 rintro m σ H1 ⟨o4, dn, ws, us, vs, rfl, s1, p1, w1, R1, R2, ep, rfl, m40⟩
 refine ⟨_, rfl, _, .inl ⟨vs, SqL.of w1, rfl⟩, ?_⟩
 have ldn : us.length <= 40 := by
  have h1 := R1.length
  have h2 := congrArg List.length ep
  rw [Kd.pts_len, List.length_append] at h2
  rw [List.length_map] at h1
  omega
 by_cases ne : ws = []
 ·subst ne
  have e : vs = [] := by simpa only [List.map_nil, aj] using R2
  subst e
  refine aM ⟨_, rfl, q H1 P1 us s1 hP p1 ?_⟩
  rw [ep]
  simpa using R1
 ·obtain ⟨w0, x, rfl⟩ := fQ ne
  rw [List.map_append] at R2
  obtain ⟨v0, u, rfl, Ra, Ru⟩ := dl R2
  have e : (!(v0 ++ [u]).isEmpty) = true := by simp
  rw [e]
  refine aO ?_
  have lv0 : v0.length <= 40 := by
   have h1 := Ra.length
   rw [List.length_map] at h1
   have h2 : ∀ l : List Kd, l.length <= (l.map Kd.size).sum := by
    intro l
    induction l with
    | nil => simp
    | cons y l ih => rw [List.length_cons, List.map_cons, List.sum_cons]; have := y.size_pos; omega
   have h3 := h2 w0
   rw [List.map_append, List.sum_append] at m40
   omega
  refine ⟨_, rfl, .inl ⟨rfl, _, SqL.of w1⟩, W1, _, _, rfl, rfl, w1, eO _ _, ?_⟩
  rw [List.dropLast_concat]
  have s2 := aS.upd H1 W1 (.lst v0)
  have w2 : upd H1 W1 (.lst v0) W1 = some (.lst v0) := ad
  have p2 := s2 _ _ hPW p1
  have t2 : dD H1 _ := s2.tups w1
  generalize upd H1 W1 (.lst v0) = H2 at s2 w2 p2 t2 ⊢
  refine ⟨_, rfl, .inl ⟨rfl, _, SqL.of p2⟩, _, rfl, P1, _, _, rfl, rfl, p2, by rw [sizeLine_eq]; omega, ?_⟩
  have s3 := aS.upd H2 P1 (.lst (us ++ [u]))
  have p3 : upd H2 P1 (.lst (us ++ [u])) P1 = some (.lst (us ++ [u])) := ad
  have w3 := s3 _ _ (Ne.symm hPW) w2
  have t3 : dD H1 _ := t2.trans (s3.tups p2)
  generalize upd H2 P1 (.lst (us ++ [u])) = H3 at s3 p3 w3 t3 ⊢
  refine ⟨_, rfl, .inl ⟨rfl, _, SqL.of w3⟩, rfl, _, rfl, u, x, rfl, Kd.tupS t3 Ru, fun H4 l ks s4 hl h4 R4 => ⟨l, ks, rfl, SqL.of h4, fun a ha => ?_⟩⟩
  have s5 := s4.trans (af ha (.lst ks.reverse))
  have lks : ks.length <= 2 := by
   have h1 := R4.length
   rw [List.length_map] at h1
   rw [h1]
   cases x <;> simp [Kd.kids]
  refine ⟨W1, a, _, _, rfl, rfl, s5 _ _ w3, ad, by rw [List.length_reverse, sizeLine_eq]; omega, ?_⟩
  have R5 : aj (upd H4 a (.lst ks.reverse)) (x.kids.reverse.map Kd.dv) ks.reverse := by
   have R4' := R4.mono (af ha (.lst ks.reverse))
   cases x with
   | whole => simp only [Kd.kids, List.map_nil, aj] at R4' ⊢; subst R4'; simp [Kd.kids, aj]
   | place c ps => simp only [Kd.kids, List.map_nil, aj] at R4' ⊢; subst R4'; simp [Kd.kids, aj]
   | row c ps j =>
    simp only [Kd.kids, List.map_cons, List.map_nil, aj] at R4'
    obtain ⟨y, r, rfl, hy, rfl⟩ := R4'
    exact bg hy
   | pair i j =>
    simp only [Kd.kids, List.map_cons, List.map_nil, aj] at R4'
    obtain ⟨y, r, rfl, hy, z, r2, rfl, hz, rfl⟩ := R4'
    exact aj.append (bg hz) (bg hy)
  have s6 := aS.upd (upd H4 a (.lst ks.reverse)) W1 (.lst (v0 ++ ks.reverse))
  have t6 : dD H1 _ := t3.trans ((ao.tups s5).trans (s6.tups (s5 _ _ w3)))
  refine ⟨_, ?_, _, dn ++ [x], w0 ++ x.kids.reverse, us ++ [u], v0 ++ ks.reverse, rfl, ?_, s6 _ _ hPW (s5 _ _ p3), ad, ?_, ?_, ?_, rfl, ?_⟩
  ·rw [List.map_append, List.sum_append, List.map_append, List.sum_append]
   have h1 := x.size_kids
   have h2 : (x.kids.reverse.map Kd.size).sum = (x.kids.map Kd.size).sum := by rw [List.map_reverse, List.sum_reverse]
   simp only [List.map_cons, List.map_nil, List.sum_cons, List.sum_nil]
   omega
  ·exact fun g o e => s6 g o (fun z => by rw [z, hWn] at e; cases e) (s5 _ _ (s3 g o (am e hP) (s2 g o (fun z => by rw [z, hWn] at e; cases e) (s1 g o e))))
  ·rw [List.map_append]
   exact aj.append (ba (fun d hd v r => by obtain ⟨y, _, rfl⟩ := List.mem_map.mp hd; exact Kd.tupS t6 r) R1) (bg (Kd.tupS t6 Ru))
  ·rw [List.map_append]
   exact aj.append (ba (fun d hd v r => by obtain ⟨y, _, rfl⟩ := List.mem_map.mp hd; exact Kd.tupS t6 r) Ra) (ba (fun d hd v r => by obtain ⟨y, _, rfl⟩ := List.mem_map.mp hd; exact Kd.tupS (s6.tups (s5 _ _ w3)) r) R5)
  ·rw [ep]
   simp only [List.reverse_append, List.reverse_cons, List.reverse_nil, List.nil_append, List.reverse_reverse, List.flatMap_append, List.flatMap_cons, List.flatMap_nil, List.append_nil, List.singleton_append, List.append_assoc]
   rw [x.pts_kids]
   simp
  ·rw [List.map_append, List.sum_append] at m40 ⊢
   have h1 := x.size_kids
   have h2 : (x.kids.reverse.map Kd.size).sum = (x.kids.map Kd.size).sum := by rw [List.map_reverse, List.sum_reverse]
   simp only [List.map_cons, List.map_nil, List.sum_cons, List.sum_nil] at m40
   omega
theorem jU : aH ["kind"] ["kind"] (ai cq) := ⟨rfl, rfl, rfl, by decide +kernel, rfl, by decide +kernel, by decide +kernel⟩
theorem ka {f fthings_of : Addr} {fd : FuncData} {k0 : Nat} (F : Fun K "points_of" "points_of" cq f fd) (T : Txt K mg) (Din_order : Def P w K mg base k0 "in_order" ["whole", "parts_of"] (gu fthings_of)) (Gthings_of : mg "things_of" = some (.ref fthings_of)) : bi P w K mg base CX0 (k0 + 1) f fd ["kind"] fw := by
 refine F.ok jU (fun vs H Q E h => ?_) (fun cdv A outer s H vs Q E hr h => ?_)
 ·obtain ⟨v, k, rfl, _⟩ := h
  rfl
 obtain ⟨v, k, rfl, R, k40, q⟩ := h
 refine ⟨_, (@ah _ _ _ (@ar _ _ _ _ (@au _ _ _ _ _ _ _ _ _ _ Din_order hr rfl (@aa _ _ _ _ _ (@pv _ 0 _ _ (by rfl) (by trivial) (by decide) (by decide)) (@aa _ _ _ _ _ (@bG _ _ (.ref fthings_of) _ _ rfl Gthings_of rfl (by decide)) (@ab _) (by rfl)) (by rfl)) (by decide) (by rfl) (by rfl)))), ?_⟩
 exact ⟨_, rfl, v, k, rfl, R, k40, q⟩
end
abbrev dq : Stmt := top 43
abbrev bR : Stmt := top 44
abbrev cm : Stmt := top 45
def bdK (bs : List Str) : List (Key × V) := bs.map fun x => (Sum.inr x, V.bl true)
theorem kH : ∀ (bs : List Str) (x : Str), (eS (bdK bs) (Sum.inr x)).isSome = decide (x ∈ bs)
 | [], x => by rw [decide_eq_false (by simp)]; rfl
 | b :: bs, x => by
  by_cases h : b = x
  ·have e : eS (bdK (b :: bs)) (Sum.inr x) = some (V.bl true) := gi (p := (Sum.inr b, V.bl true)) (by rw [h])
   rw [e, decide_eq_true (by simp [h])]; rfl
  ·have e : eS (bdK (b :: bs)) (Sum.inr x) = eS (bdK bs) (Sum.inr x) := fR (p := (Sum.inr b, V.bl true)) (fun z => h (by injection z))
   rw [e, kH bs x]
   by_cases h2 : x ∈ bs
   ·rw [decide_eq_true h2, decide_eq_true (List.mem_cons_of_mem _ h2)]
   ·rw [decide_eq_false h2, decide_eq_false (fun z => by rcases List.mem_cons.mp z with z | z; exact h z.symm; exact h2 z)]
def cb (bs : List Str) (ps : List Pr) : List Pr := ps.filter fun p => !decide (p.1 ∈ bs)
def rH : Sp := fun vs H Q _ => ∃ (v : V) (b : Addr) (c : Int) (ps : List Pr) (bs : List Str), vs = [v, .ref b] /\ Rep H (bU c ps) v /\ ps.length <= 40 /\ H b = some (.dK (bdK bs)) /\
 ∀ (H' : Hp) (l : Addr) (us : List V), ao H H' -> H l = none -> H' l = some (.lst us) -> aj H' (aV (cb bs ps)) us -> Q (.ref l) H'
section
variable {P : Program} {w : World} {K : PySem.W.Frag} {mg : Str -> Option Value} {base : Heap}
theorem nP : aH ["length", "bound"] ["length", "bound"] (ai dq) := ⟨rfl, rfl, rfl, by decide +kernel, rfl, by decide +kernel, by decide +kernel⟩
theorem oA {f : Addr} {fd : FuncData} (F : Fun K "unbound" "unbound" dq f fd) (T : Txt K mg) : bi P w K mg base CX0 1 f fd ["length", "bound"] rH := by
 refine F.ok nP (fun vs H Q E h => ?_) (fun cdv A outer s H vs Q E hr h => ?_)
 ·obtain ⟨v, b, c, ps, bs, rfl, _⟩ := h
  rfl
 obtain ⟨v, b, c, ps, bs, rfl, R, h40, hb, q⟩ := h
 have hu := mW hr
 obtain ⟨a, a1, us, rfl, ha, ha1, ru, lu⟩ := uF R
 refine ⟨_, (@ah _ _ _ (@ar _ _ _ _ (@ga _ _ (["part"]) ([1]) _ _ _ _ _ _ _ _ _ (@eW _ _ _ _ (@ay _ _ _ _ _ _ _ aB (@pv _ 0 _ _ (by rfl) (by trivial) (by decide) (by decide)) (@ac _ _ _ _) (fun _ _ => rfl))) (.of rfl) rfl (fun _ _ _ => aK (i := 0) (dG (l := ["part", "bound"]) ((by decide +kernel)) rfl) rfl (Or.inl rfl)) (cz (by decide)) (fun _ _ _ => uw (@ap _ _ _ _ _ _ _ _ (pW hu) (@ay _ _ _ _ _ _ _ (uN K rfl) (@pv _ 0 _ _ (by rfl) (by trivial) (by decide) (by decide)) (@ac _ _ _ _) (fun _ _ => rfl)) (@pv _ 1 _ _ (by rfl) (by trivial) (by decide) (by decide)) (by with_unfolding_all rfl))) (fun _ _ _ => (@pv _ 0 _ _ (by rfl) (by trivial) (by decide) (by decide))) (by intro _; rfl)))), ?_⟩
 refine ⟨_, rfl, a, _, 1, .ref a1, rfl, rfl, SqT.of ha, ak (j := 1) rfl, a1, rfl, ⟨us, SqT.of ha1⟩, gp (xs := us) (fun i ys H' => H' = H /\ ys.length <= i /\ aj H (aV (cb bs (ps.take i))) ys) ⟨rfl, Nat.le_refl _, by simp [cb, aj]⟩ (fun i ys H' _ p => by rw [p.1]; exact SqT.of ha1) ?_ ?_⟩
 ·rintro i ys H' x hx ⟨rfl, ly, Ry⟩
  obtain ⟨p, e, hp, rfl, he⟩ := pO ru hx
  have hi : i < us.length := (List.getElem?_eq_some_iff.mp hx).1
  have hti : ps.take (i + 1) = ps.take i ++ [p] := by rw [List.take_add_one, hp]; rfl
  refine tP ⟨_, rfl, e, _, 0, .str p.1, rfl, rfl, SqT.of he, ak (j := 0) rfl, _, rfl, b, _, rfl, om.k (k := Sum.inr p.1) hb, ?_⟩
  refine ⟨_, rfl, ?_⟩
  show if (!(eS (bdK bs) (Sum.inr p.1)).isSome) = true then _ else _
  rw [kH]
  by_cases h : p.1 ∈ bs
  ·rw [decide_eq_true h]
   refine aM ⟨rfl, by omega, ?_⟩
   have : cb bs (ps.take (i + 1)) = cb bs (ps.take i) := by unfold cb; rw [hti, List.filter_append]; simp [h]
   rw [this]; exact Ry
  ·rw [decide_eq_false h]
   refine aO ⟨_, rfl, by rw [sizeLine_eq]; omega, rfl, by rw [List.length_append, List.length_singleton]; omega, ?_⟩
   have : cb bs (ps.take (i + 1)) = cb bs (ps.take i) ++ [p] := by unfold cb; rw [hti, List.filter_append]; simp [h]
   rw [this, show aV (cb bs (ps.take i) ++ [p]) = aV (cb bs (ps.take i)) ++ aV [p] from List.map_append]
   refine aj.append Ry (bg ?_)
   rw [Rep]
   exact ⟨e, _, rfl, he, by simp only [aj]; exact ⟨_, _, rfl, by simp only [Rep], _, _, rfl, by simp only [Rep], rfl⟩⟩
 ·rintro ys H' ⟨rfl, ly, Ry⟩ r hr'
  rw [lu, List.take_length] at Ry
  exact q _ r ys (af hr' _) hr' ad (Ry.mono (af hr' _))
end
def kB (k : Kd) (fs : List Pr) (ns : List Str) : Bool := fs.isEmpty || (decide (k.word = "row") && (decide (fs.length = 1) && (fs.map fun p => decide (p ∈ ns.map fun x => (x, (1 : Int)))).headD false))
def qX : Sp := fun vs H Q _ => ∃ (v u : V) (l : Addr) (k : Kd) (fs : List Pr) (us : List V) (ns : List Str), vs = [v, .ref l, u] /\ Rep H k.dv v /\ H l = some (.lst us) /\ aj H (aV fs) us /\ Rep H (.tup (ns.map Dv.str)) u /\ ns.length <= 40 /\ ∀ H', ao H H' -> Q (.bl (kB k fs ns)) H'
theorem mZ {p q : Pr} (h : Dv.tup [.str p.1, .int p.2] = .tup [.str q.1, .int q.2]) : p = q := by
 injection h with h; injection h with h1 h2; injection h2 with h2 _; injection h1 with h1; injection h2 with h2
 exact Prod.ext h1 h2
section
variable {P : Program} {w : World} {K : PySem.W.Frag} {mg : Str -> Option Value} {base : Heap}
theorem kI : aH ["point", "fresh", "names"] ["point", "fresh", "names"] (ai bR) := ⟨rfl, rfl, rfl, by decide +kernel, rfl, by decide +kernel, by decide +kernel⟩
theorem kZ {f : Addr} {fd : FuncData} (F : Fun K "may_stand" "may_stand" bR f fd) (T : Txt K mg) : bi P w K mg base CX0 1 f fd ["point", "fresh", "names"] qX := by
 refine F.ok kI (fun vs H Q E h => ?_) (fun cdv A outer s H vs Q E hr h => ?_)
 ·obtain ⟨v, u, l, k, fs, us, ns, rfl, _⟩ := h
  rfl
 obtain ⟨v, u, l, k, fs, us, ns, rfl, R, hl, Rf, Rn, n40, q⟩ := h
 have hu9 := iI hr
 have huL : (A.deeper (PyProof.Rows.envOfC (Str.ofString "may_stand") (ai bR) s.heap.objs.size f cdv)).units < cLine := by omega
 obtain ⟨a, vs, rfl, ha⟩ := vg R
 obtain ⟨b, ws, rfl, hb, Rw⟩ := Rep.tup_inv Rn
 have lf : us.length = fs.length := by have := Rf.length; rwa [List.length_map] at this
 refine ⟨_, (@ae _ _ _ _ _ (@aN _ _ _ _ _ _ _ _ (@ap _ _ _ _ _ _ _ _ (nH huL) (@pv _ 1 _ _ (by rfl) (by trivial) (by decide) (by decide)) (@bp _ _ _ _ (@ab _)) (aq _)) (@ah _ _ _ (@ar _ _ _ _ (@bN _ _ _ _))) (@av _)) (@ah _ _ _ (@ar _ _ _ _ (@bm _ _ _ _ _ _ _ (@bd _ _ _ _ _ _ _ _ aU (@ay _ _ _ _ _ _ _ aB (@pv _ 0 _ _ (by rfl) (by trivial) (by decide) (by decide)) (@ac _ _ _ _) (fun _ _ => rfl)) (@aD _ _ _ _) (aq _)) (@bm _ _ _ _ _ _ _ (@bd _ _ _ _ _ _ _ _ aU (@ax _ _ _ _ _ _ _ _ _ aI rfl T.len (by decide +kernel) (@aa _ _ _ _ _ (@pv _ 1 _ _ (by rfl) (by trivial) (by decide) (by decide)) (@ab _) (by rfl)) (by decide) (by decide) (by rfl) (by rfl)) (@ac _ _ _ _) (aq _)) (@bH _ _ _ _ _ (@bd _ _ _ _ _ _ _ _ (vY hu9) (@ay _ _ _ _ _ _ _ br (@pv _ 1 _ _ (by rfl) (by trivial) (by decide) (by decide)) (@ac _ _ _ _) (fun _ _ => rfl)) (@ga _ _ (["name"]) ([]) _ _ _ _ _ _ _ _ _ (@eW _ _ _ _ (@pv _ 2 _ _ (by rfl) (by trivial) (by decide) (by decide))) (.of rfl) rfl (fun _ _ _ => aK (i := 0) (dG (l := ["name"]) ((by decide +kernel)) rfl) rfl (Or.inl rfl)) (cz (by decide)) (fun _ _ _ => (@cx _)) (fun _ _ _ => (@aX _ _ _ _ _ (@aa _ _ _ _ _ (@pv _ 0 _ _ (by rfl) (by trivial) (by decide) (by decide)) (@aa _ _ _ _ _ (@ac _ _ _ _) (@ab _) (by rfl)) (by rfl)))) (by intro _; rfl)) (by with_unfolding_all rfl)))))))), ?_⟩
 refine ⟨_, rfl, Nat.zero_le _, fun e he => ?_⟩
 have s1 := af he (.lst [])
 refine ⟨l, e, us, rfl, rfl, SqL.of (s1 _ _ hl), SqL.of ad, _, rfl, ?_⟩
 cases fs with
 | nil =>
  obtain rfl : us = [] := List.eq_nil_of_length_eq_zero lf
  exact aO (q _ s1)
 | cons p fs =>
  obtain ⟨y, us, rfl⟩ : ∃ y z, us = y :: z := by cases us with | nil => cases lf | cons y z => exact ⟨y, z, rfl⟩
  refine aM ?_
  have qq := fun H' (s : ao H H') => q H' s
  simp only [kB, List.isEmpty_cons, Bool.false_or, List.map_cons, List.headD_cons] at qq
  refine ⟨_, rfl, a, _, 0, .str k.word, rfl, rfl, SqT.of (s1 _ _ ha), ak (j := 0) rfl, rfl, _, rfl, ?_⟩
  show if decide (V.str k.word = V.str "row") = true then _ else _
  rw [bO]
  by_cases hw : k.word = "row"
  ·rw [decide_eq_true hw]
   refine aO ⟨_, rfl, l, _, rfl, .inl (SqL.of (s1 _ _ hl)), rfl, _, rfl, ?_⟩
   simp only [decide_eq_true hw, Bool.true_and] at qq
   by_cases h1 : us.length = 0
   ·obtain rfl : us = [] := List.eq_nil_of_length_eq_zero h1
    have ef : fs = [] := List.eq_nil_of_length_eq_zero (by simpa using lf.symm)
    subst ef
    refine aO ⟨_, rfl, l, _, 0, y, rfl, rfl, SqL.of (s1 _ _ hl), ak (j := 0) rfl, ?_⟩
    simp only [List.length_singleton, decide_true, Bool.true_and] at qq
    have Ry : Rep H (.tup [.str p.1, .int p.2]) y := by
     simp only [List.map_cons, List.map_nil, aj] at Rf
     obtain ⟨z, r, e1, Rz, _⟩ := Rf
     cases e1; exact Rz
    refine ⟨_, rfl, b, rfl, ⟨ws, SqT.of (s1 _ _ hb)⟩, gp (xs := ws) (fun i ys H' => ao (upd H e (.lst [])) H' /\ aj H' (aV ((ns.take i).map fun x => (x, (1 : Int)))) ys) ⟨ao.refl _, by simp [aj]⟩ (fun i ys H' _ p => SqT.of (p.1 _ _ (s1 _ _ hb))) ?_ ?_⟩
    ·rintro i ys H2 x hx ⟨s2, R2⟩
     obtain ⟨n, hn, Rx⟩ := dJ Rw hx
     have ex : x = .str n := by simpa only [Rep] using Rx
     subst ex
     have hi : i < ws.length := (List.getElem?_eq_some_iff.mp hx).1
     have lw : ws.length = ns.length := by have := Rw.length; rwa [List.length_map] at this
     refine cn ⟨_, rfl, z2, fun t ht => ⟨?_, s2.trans (af ht _), ?_⟩⟩
     ·rw [R2.length, List.length_map, List.length_map, List.length_take, sizeLine_eq]; omega
     ·have s3 := af ht (.tup [.str n, .int 1])
      rw [List.take_add_one, hn, List.map_append, show aV (List.map (fun x => (x, (1 : Int))) (ns.take i) ++ List.map (fun x => (x, (1 : Int))) (some n).toList) = aV (List.map (fun x => (x, (1 : Int))) (ns.take i)) ++ aV [(n, 1)] from List.map_append]
      refine aj.append (R2.mono s3) (bg ?_)
      rw [Rep]
      exact ⟨t, _, rfl, ad, by simp only [aj]; exact ⟨_, _, rfl, by simp only [Rep], _, _, rfl, by simp only [Rep], rfl⟩⟩
    ·rintro ys H2 ⟨s2, R2⟩ r hr'
     have lw : ws.length = ns.length := by have := Rw.length; rwa [List.length_map] at this
     rw [lw, List.take_length] at R2
     have s3 := af hr' (.lst ys)
     have plp : ∀ p : Pr, L2.Pl 1 (.tup [.str p.1, .int p.2]) := fun p => .tup fun d hd => by
      rcases List.mem_cons.mp hd with rfl | hd
      ·exact .str
      ·rw [List.mem_singleton.mp hd]; exact .int
     refine ⟨r, ys, 1, _, _, rfl, SqL.of ad, R2.mono s3, fun d hd => ?_, plp p, by decide, ((Ry.mono s1).mono s2).mono s3, fun c hc => ?_⟩
     ·obtain ⟨z, _, rfl⟩ := List.mem_map.mp hd
      exact plp z
     ·have e2 : c = decide (p ∈ ns.map fun x => (x, (1 : Int))) := by
       rw [Bool.eq_iff_iff, hc, decide_eq_true_iff]
       exact ⟨fun z => by obtain ⟨y, hy, e⟩ := List.mem_map.mp z; rw [<- mZ e]; exact hy, fun z => List.mem_map_of_mem (f := fun p : Pr => Dv.tup [.str p.1, .int p.2]) z⟩
      rw [e2]
      exact qq _ (s1.trans (s2.trans s3))
   ·have : ¬ V.int (((y :: us).length : Nat) : Int) = V.int 1 := fun z => h1 (by injection z with z; simp at z; omega)
    rw [decide_eq_false this]
    have h2 : ¬ (p :: fs).length = 1 := fun z => h1 (by rw [List.length_cons] at z; rw [List.length_cons, List.length_cons] at lf; omega)
    simp only [decide_eq_false h2, Bool.false_and] at qq
    exact aM (qq _ s1)
  ·rw [decide_eq_false hw]
   simp only [decide_eq_false hw, Bool.false_and] at qq
   exact aM (qq _ s1)
end
def cC (bs : List Str) (k : Kd) : List Pr := match k.len? with | none => [] | some p => cb bs p.2
def cR (ns bs : List Str) (k : Kd) : Option (List Str) := if kB k (cC bs k) ns = true then some (bs ++ (cC bs k).map (·.1)) else none
def bP (ns : List Str) : List Str -> List Kd -> Option (List Str)
 | bs, [] => some bs
 | bs, k :: ks => match cR ns bs k with | none => none | some cs => bP ns cs ks
theorem bQ (ns : List Str) : ∀ (xs ys : List Kd) (bs : List Str), bP ns bs (xs ++ ys) = match bP ns bs xs with | none => none | some cs => bP ns cs ys
 | [], _, _ => rfl
 | x :: xs, ys, bs => by
  show (match cR ns bs x with | none => none | some cs => bP ns cs (xs ++ ys)) = match (match cR ns bs x with | none => none | some cs => bP ns cs xs) with | none => none | some cs => bP ns cs ys
  cases cR ns bs x with
  | none => rfl
  | some cs => exact bQ ns xs ys cs
abbrev Prm := Str × Kd
def fD (p : Prm) : Dv := .tup [.str p.1, p.2.dv]
def oy (ns : List Str) (ps : List Prm) : Bool := match bP ns [] (ps.flatMap fun p => p.2.pts) with | none => false | some bs => decide (bs.length = ns.length)
def L40 (_ : Int) (ps : List Pr) : Prop := ps.length <= 40
def ki : Sp := fun vs H Q _ => ∃ (v u : V) (ns : List Str) (ps : List Prm), vs = [v, u] /\ Rep H (.tup (ns.map Dv.str)) v /\ Rep H (.tup (ps.map fD)) u /\ ns.length <= 4 /\ ps.length <= 4 /\ (∀ p ∈ ps, p.2.size <= 12 /\ p.2.All L40) /\ ∀ H', ao H H' -> Q (.bl (oy ns ps)) H'
theorem lV {H : Hp} {p : Prm} {v : V} (R : Rep H (fD p) v) : ∃ a u, v = .ref a /\ H a = some (.tup [.str p.1, u]) /\ Rep H p.2.dv u := by
 obtain ⟨a, vs, rfl, ha, rs⟩ := Rep.tup_inv R
 obtain ⟨x, y, rfl, r1, r2⟩ := aj.two rs
 simp only [Rep] at r1
 subst r1
 exact ⟨a, y, rfl, ha, r2⟩
theorem oR {k : Kd} {fs : List Pr} {ns : List Str} (h : kB k fs ns = true) : fs = [] \/ ∃ x, fs = [(x, 1)] := by
 unfold kB at h
 match fs, h with
 | [], _ => exact .inl rfl
 | [p], h =>
  refine .inr ?_
  simp only [List.isEmpty_cons, Bool.false_or, List.map_cons, List.map_nil, List.headD_cons, Bool.and_eq_true, decide_eq_true_eq] at h
  obtain ⟨x, _, e⟩ := List.mem_map.mp h.2.2
  exact ⟨x, by rw [<- e]⟩
 | p :: q :: r, h => simp at h
theorem qp {bs : List Str} {k : Kd} {p : Pr} (h : p ∈ cC bs k) : p.1 ∉ bs := by
 unfold cC at h
 cases e : k.len? with
 | none => rw [e] at h; cases h
 | some q =>
  rw [e] at h
  have := (List.mem_filter.mp h).2
  simpa using this
theorem rY {bs : List Str} {x : Str} (h : x ∉ bs) : dZ (bdK bs) (Sum.inr x) (.bl true) = bdK (bs ++ [x]) := by
 have : dZ (bdK bs) (Sum.inr x) (.bl true) = bdK bs ++ [(Sum.inr x, .bl true)] := by
  unfold dZ
  rw [if_neg]
  have := kH bs x
  rw [decide_eq_false h] at this
  intro z
  rw [List.any_eq_true] at z
  obtain ⟨p, hp, e⟩ := z
  obtain ⟨y, hy, rfl⟩ := List.mem_map.mp hp
  have e' : (Sum.inr y : Key) = Sum.inr x := of_decide_eq_true e
  injection e' with e'
  exact h (e' ▸ hy)
 rw [this]
 unfold bdK
 rw [List.map_append]; rfl
theorem fi {P : Int -> List Pr -> Prop} : ∀ {k : Kd}, k.All P -> ∀ j ∈ k.pts, ∀ c ps, j.len? = some (c, ps) -> P c ps
 | .whole, _, j, hj, c, ps, e => by
  rw [List.mem_singleton.mp hj] at e; cases e
 | .place c ps, h, j, hj, c', ps', e => by
  rw [List.mem_singleton.mp hj] at e; cases e; exact h
 | .row c ps k, h, j, hj, c', ps', e => by
  rcases List.mem_cons.mp hj with rfl | hj
  ·cases e; exact h.1
  ·exact fi h.2 j hj c' ps' e
 | .pair a b, h, j, hj, c', ps', e => by
  rcases List.mem_cons.mp hj with rfl | hj
  ·cases e
  ·rcases List.mem_append.mp hj with hj | hj
   ·exact fi h.1 j hj c' ps' e
   ·exact fi h.2 j hj c' ps' e
theorem ut {ns bs cs : List Str} {ps : List Prm} {i j : Nat} {p : Prm} {k : Kd} (hp : ps[i]? = some p) (hj : p.2.pts[j]? = some k) (e1 : bP ns [] ((ps.take i).flatMap fun p => p.2.pts) = some bs) (e3 : bP ns bs (p.2.pts.take j) = some cs) (h : cR ns cs k = none) : bP ns [] (ps.flatMap fun p => p.2.pts) = none := by
 obtain ⟨hi, hpe⟩ := List.getElem?_eq_some_iff.mp hp
 obtain ⟨hj', hje⟩ := List.getElem?_eq_some_iff.mp hj
 have e : ps = ps.take i ++ p :: ps.drop (i + 1) := by rw [<- hpe, <- List.drop_eq_getElem_cons hi, List.take_append_drop]
 have e' : p.2.pts = p.2.pts.take j ++ k :: p.2.pts.drop (j + 1) := by rw [<- hje, <- List.drop_eq_getElem_cons hj', List.take_append_drop]
 have h1 : ps.flatMap (fun p => p.2.pts) = ((ps.take i).flatMap fun p => p.2.pts) ++ (p.2.pts ++ (ps.drop (i + 1)).flatMap fun p => p.2.pts) := by
  conv => lhs; rw [e]
  rw [List.flatMap_append, List.flatMap_cons]
 have h2 : bP ns bs p.2.pts = none := by
  rw [e', bQ, e3]
  show (match cR ns cs k with | none => none | some c => bP ns c _) = none
  rw [h]
 rw [h1, bQ, e1]
 show bP ns bs _ = none
 rw [bQ, h2]
section
variable {P : Program} {w : World} {K : PySem.W.Frag} {mg : Str -> Option Value} {base : Heap}
theorem fK : aH ["names", "params", "bound", "x", "kind", "point", "fresh", "name", "times"] ["names", "params"] (ai cm) := ⟨rfl, rfl, rfl, by decide +kernel, rfl, by decide +kernel, by decide +kernel⟩
theorem jY {f : Addr} {fd : FuncData} {k : Nat} (F : Fun K "are_bound" "are_bound" cm f fd) (T : Txt K mg) (Dpoints_of : Def P w K mg base k "points_of" ["kind"] fw) (Dlength_at : Def P w K mg base k "length_at" ["point"] lb) (Dunbound : Def P w K mg base k "unbound" ["length", "bound"] rH) (Dmay_stand : Def P w K mg base k "may_stand" ["point", "fresh", "names"] qX) :
  bi P w K mg base CX0 (k + 1) f fd ["names", "params"] ki := by
 have nd : (["names", "params", "bound", "x", "kind", "point", "fresh", "name", "times"] : List Str).Nodup := fK.nd
 refine F.ok fK (fun vs H Q E h => ?_) (fun cdv A outer s H vs Q E hr h => ?_)
 ·obtain ⟨v, u, ns, ps, rfl, _⟩ := h
  rfl
 obtain ⟨v, u, ns, ps, rfl, Rn, Rp, n4, p4, hk, q⟩ := h
 have hu := mW hr
 obtain ⟨b, ws, rfl, hb, Rw⟩ := Rep.tup_inv Rn
 obtain ⟨a, us, rfl, ha, Ru⟩ := Rep.tup_inv Rp
 have lu : us.length = ps.length := by have := Ru.length; rwa [List.length_map] at this
 have lw : ws.length = ns.length := by have := Rw.length; rwa [List.length_map] at this
 refine ⟨_, (@ae _ _ _ _ _ (@aJ _ _ (2) _ _ _ _ nd rfl (Or.inl rfl) (@iG _ _) (by rfl) (by trivial)) (@ae _ _ _ _ _ (@cB _ _ _ _ _ _ _ _ PassesOwn.never rfl (@eW _ _ _ _ (@pv _ 1 _ _ (by rfl) (by trivial) (by decide) (by decide))) (@cW _ _ _ _ _ _ rfl (@aT _ _ _ _ _ (@aK _ _ (3) _ nd rfl (Or.inl rfl) (by trivial)) (@aT _ _ _ _ _ (@aK _ _ (4) _ nd rfl (Or.inl rfl) (by trivial)) (@cc _) (by rfl)) (by rfl)) (by rfl) (by rfl)) (@ah _ _ _ (@cB _ _ _ _ _ _ _ _ PassesOwn.never rfl (@hV _ _ _ _ (@au _ _ _ _ _ _ _ _ _ _ Dpoints_of hr rfl (@aa _ _ _ _ _ (@pv _ 4 _ _ (by rfl) (by trivial) (by decide) (by decide)) (@ab _) (by rfl)) (by decide) (by rfl) (by rfl))) (@aK _ _ (5) _ nd rfl (Or.inl rfl) (by trivial)) (@ae _ _ _ _ _ (@aJ _ _ (6) _ _ _ _ nd rfl (Or.inl rfl) (@rL _ _ _ _ _ _ _ _ (@ap _ _ _ _ _ _ _ _ wE (@au _ _ _ _ _ _ _ _ _ _ Dlength_at hr rfl (@aa _ _ _ _ _ (@pv _ 5 _ _ (by rfl) (by trivial) (by decide) (by decide)) (@ab _) (by rfl)) (by decide) (by rfl) (by rfl)) (@nY _ _ _) (aq _)) (@bp _ _ _ _ (@ab _)) (@au _ _ _ _ _ _ _ _ _ _ Dunbound hr rfl (@aa _ _ _ _ _ (@au _ _ _ _ _ _ _ _ _ _ Dlength_at hr rfl (@aa _ _ _ _ _ (@pv _ 5 _ _ (by rfl) (by trivial) (by decide) (by decide)) (@ab _) (by rfl)) (by decide) (by rfl) (by rfl)) (@aa _ _ _ _ _ (@pv _ 2 _ _ (by rfl) (by trivial) (by decide) (by decide)) (@ab _) (by rfl)) (by rfl)) (by decide) (by rfl) (by rfl))) (by rfl) (by trivial)) (@ae _ _ _ _ _ (@aN _ _ _ _ _ _ _ _ (@bM _ _ _ _ (@bF _ _ _ (@au _ _ _ _ _ _ _ _ _ _ Dmay_stand hr rfl (@aa _ _ _ _ _ (@pv _ 5 _ _ (by rfl) (by trivial) (by decide) (by decide)) (@aa _ _ _ _ _ (@pv _ 6 _ _ (by rfl) (by trivial) (by decide) (by decide)) (@aa _ _ _ _ _ (@pv _ 0 _ _ (by rfl) (by trivial) (by decide) (by decide)) (@ab _) (by rfl)) (by rfl)) (by rfl)) (by decide) (by rfl) (by rfl)) (by intro _; rfl))) (@ah _ _ _ (@ar _ _ _ _ (@bN _ _ _ _))) (@av _)) (@ah _ _ _ (@cB _ _ _ _ _ _ _ _ PassesOwn.never rfl (@hV _ _ _ _ (@pv _ 6 _ _ (by rfl) (by trivial) (by decide) (by decide))) (@cW _ _ _ _ _ _ rfl (@aT _ _ _ _ _ (@aK _ _ (7) _ nd rfl (Or.inl rfl) (by trivial)) (@aT _ _ _ _ _ (@aK _ _ (8) _ nd rfl (Or.inl rfl) (by trivial)) (@cc _) (by rfl)) (by rfl)) (by rfl) (by rfl)) (@ah _ _ _ (@ic _ _ _ _ _ _ _ _ _ hu (@pv _ 2 _ _ (by rfl) (by trivial) (by decide) (by decide)) (@pv _ 7 _ _ (by rfl) (by trivial) (by decide) (by decide)) (@bN _ _ _ _) rfl)) (by intro _; rfl))))) (by intro _; rfl))) (by intro _; rfl)) (@ah _ _ _ (@ar _ _ _ _ (@bd _ _ _ _ _ _ _ _ aU (@ax _ _ _ _ _ _ _ _ _ qb rfl T.len (by decide +kernel) (@aa _ _ _ _ _ (@pv _ 2 _ _ (by rfl) (by trivial) (by decide) (by decide)) (@ab _) (by rfl)) (by decide) (by decide) (by rfl) (by rfl)) (@ax _ _ _ _ _ _ _ _ _ aI rfl T.len (by decide +kernel) (@aa _ _ _ _ _ (@pv _ 0 _ _ (by rfl) (by trivial) (by decide) (by decide)) (@ab _) (by rfl)) (by decide) (by decide) (by rfl) (by rfl)) (aq _)))))), ?_⟩
 intro d hd
 have s0 : ao H (upd H d (.dK [])) := af hd _
 have d0 : upd H d (.dK []) d = some (.dK (bdK [])) := ad
 generalize upd H d (.dK []) = H0 at s0 d0 ⊢
 refine ⟨_, rfl, a, rfl, ⟨us, SqT.of (s0 _ _ ha)⟩, pd (xs := us) (fun i σ H' => ∃ (o1 o2 o3 o4 o5 o6 : Option V) (bs : List Str), σ = [some (.ref b), some (.ref a), some (.ref d), o1, o2, o3, o4, o5, o6] /\ ao H H' /\ H' d = some (.dK (bdK bs)) /\ bP ns [] ((ps.take i).flatMap fun p => p.2.pts) = some bs /\ bs.length <= 12 * i)
  ⟨_, _, _, _, _, _, [], rfl, s0, d0, rfl, by simp⟩ (fun i σ H' _ ⟨_, _, _, _, _, _, _, _, s1, _⟩ => SqT.of (s1 _ _ ha)) ?T1 ?_⟩
 case T1 =>
  rintro i x σ H1 hx ⟨o1, o2, o3, o4, o5, o6, bs, rfl, s1, d1, e1, l1⟩
  obtain ⟨p, hp, Rx⟩ := dJ (f := fD) Ru hx
  obtain ⟨e, z, rfl, he, Rz⟩ := lV Rx
  have hi : i < us.length := (List.getElem?_eq_some_iff.mp hx).1
  have hti : ps.take (i + 1) = ps.take i ++ [p] := by rw [List.take_add_one, hp]; rfl
  obtain ⟨k12, kA⟩ := hk p (List.mem_of_getElem? hp)
  refine ⟨e, _, rfl, SqT.of (s1 _ _ he), rfl, _, _, rfl, _, _, rfl, rfl, ?_⟩
  refine ⟨_, rfl, z, p.2, rfl, Rz.mono s1, by omega, fun H2 g ks s2 hg0 hg Rg => ?_⟩
  have lk : ks.length = p.2.pts.length := by have := Rg.length; rwa [List.length_map] at this
  have gd : g ≠ d := fun z => by rw [z, d1] at hg0; cases hg0
  have lp := Kd.pts_len p.2
  refine ⟨g, rfl, ⟨ks, SqL.of hg⟩, mB (xs := ks) (fun j σ H' => ∃ (o3 o4 o5 o6 : Option V) (cs : List Str), σ = [some (.ref b), some (.ref a), some (.ref d), some (.str p.1), some z, o3, o4, o5, o6] /\ aS d H2 H' /\ H' d = some (.dK (bdK cs)) /\ bP ns bs (p.2.pts.take j) = some cs /\ cs.length <= 12 * i + j)
   ⟨_, _, _, _, bs, rfl, aS.refl _ _, s2 _ _ d1, rfl, by omega⟩ (fun j σ H' _ ⟨_, _, _, _, _, _, sx, _⟩ => SqL.of (sx _ _ gd hg)) ?T2 ?_⟩
  case T2 =>
   rintro j y σ H3 hy ⟨o3, o4, o5, o6, cs, rfl, s3, d3, e3, l3⟩
   obtain ⟨kj, hj, Ry⟩ := dJ Rg hy
   have hjm := List.mem_of_getElem? hj
   have hjl : j < ks.length := (List.getElem?_eq_some_iff.mp hy).1
   have htj : p.2.pts.take (j + 1) = p.2.pts.take j ++ [kj] := by rw [List.take_add_one, hj]; rfl
   have t3 : dD H2 H3 := s3.tupsD (s2 _ _ d1)
   have Ry3 := Kd.tupS t3 Ry
   have s03 : ao H H3 := fun x o e => s3 x o (am e hd) (s2 _ _ (s1 _ _ e))
   refine gA (fun σ' H4 => ∃ (l : Addr) (zs : List V), σ' = [some (.ref b), some (.ref a), some (.ref d), some (.str p.1), some z, some y, some (.ref l), o5, o6] /\ ao H3 H4 /\ H3 l = none /\ H4 l = some (.lst zs) /\ aj H4 (aV (cC cs kj)) zs) ?N1 (fun nx => ?_)
   case N1 =>
    rintro _ H4 ⟨l, zs, rfl, s4, hl0, hl, Rz'⟩
    have lz : zs.length = (cC cs kj).length := by have := Rz'.length; rwa [List.length_map] at this
    refine ⟨_, rfl, _, rfl, _, rfl, y, .ref b, l, kj, cC cs kj, zs, ns, rfl, Ry3.mono s4, hl, Rz', by rw [Rep]; exact ⟨b, ws, rfl, s4 _ _ (s03 _ _ hb), Rw.mono (s03.trans s4)⟩, by omega, fun H5 s5 => ⟨_, rfl, ?_⟩⟩
    cases hm : kB kj (cC cs kj) ns with
    | false =>
     refine aO ?_
     have hf : oy ns ps = false := by
      unfold oy
      rw [ut hp hj e1 e3 (by unfold cR; rw [hm]; rfl)]
     exact hf ▸ q H5 (s03.trans (s4.trans s5))
    | true =>
     refine aM ?_
     have d5 := s5 _ _ (s4 _ _ d3)
     have ld : l ≠ d := fun z => by rw [z, d3] at hl0; cases hl0
     refine ⟨_, rfl, l, rfl, ⟨zs, SqL.of (s5 _ _ hl)⟩, mB (xs := zs) (fun m σ H' => ∃ (o5 o6 : Option V), σ = [some (.ref b), some (.ref a), some (.ref d), some (.str p.1), some z, some y, some (.ref l), o5, o6] /\ aS d H5 H' /\ H' d = some (.dK (bdK (cs ++ ((cC cs kj).take m).map (·.1)))))
      ⟨_, _, rfl, aS.refl _ _, by rw [d5]; simp⟩ (fun m σ H' _ ⟨_, _, _, sx, _⟩ => SqL.of (sx _ _ ld (s5 _ _ hl))) ?T3 ?_⟩
     case T3 =>
      rintro m c σ H6 hc ⟨o5, o6, rfl, s6, d6⟩
      obtain ⟨r, e, hr', rfl, he'⟩ := pO Rz' hc
      have ed : e ≠ d := fun z => by have := s5 _ _ he'; rw [z, d5] at this; cases this
      refine ⟨e, _, rfl, SqT.of (s6 _ _ ed (s5 _ _ he')), rfl, _, _, rfl, _, _, rfl, rfl, ?_⟩
      rcases oR hm with hn | ⟨x, hn⟩
      ·rw [hn] at hr'; simp at hr'
      rw [hn] at hr'
      obtain rfl : m = 0 := by cases m with | zero => rfl | succ m => simp at hr'
      obtain rfl : (x, (1 : Int)) = r := by simpa using hr'
      have xn : x ∉ cs := qp (p := (x, 1)) (by rw [hn]; exact List.mem_singleton.mpr rfl)
      rw [hn] at d6 ⊢
      simp only [List.take_zero, List.map_nil, List.append_nil] at d6
      refine ⟨_, rfl, _, rfl, d, _, rfl, mv.k (k := Sum.inr x) d6 ?_, ?_⟩
      ·rw [show (bdK cs).length = cs.length from List.length_map _, sizeLine_eq]; omega
      ·refine ⟨_, _, rfl, s6.trans (aS.upd _ _ _), ?_⟩
       rw [ad, rY xn]
       rfl
     rintro σ H6 ⟨o5, o6, rfl, s6, d6⟩
     rw [lz, List.take_length] at d6
     have lf : (cC cs kj).length <= 1 := by rcases oR hm with hn | ⟨x, hn⟩ <;> rw [hn] <;> simp
     refine ⟨_, _, _, _, _, rfl, s3.trans ((ao.b d (s4.trans s5)).trans s6), d6, ?_, ?_⟩
     ·rw [htj, bQ, e3]
      show (match cR ns cs kj with | none => none | some c => bP ns c []) = _
      unfold cR
      rw [hm]; rfl
     ·rw [List.length_append, List.length_map]; omega
   refine ⟨_, rfl, y, kj, rfl, Ry3, fun w1 Rw1 => ⟨rfl, _, rfl, ?_⟩⟩
   rcases rm Rw1 with ⟨e, rfl⟩ | ⟨r, ds, e, ed, Rd⟩
   ·refine aO ⟨Nat.zero_le _, fun l hl => gnm (nx _ _ ⟨l, [], rfl, af hl _, hl, ad, ?_⟩)⟩
    unfold cC
    rw [e]
    simp [aj]
   ·have hw : w1 ≠ .non := fun z => by subst z; simp only [Rep] at Rd; obtain ⟨_, _, z, _⟩ := Rd; cases z
    rw [show decide (w1 = V.non) = false by simp [hw]]
    refine aM ⟨_, rfl, y, kj, rfl, Ry3, fun w2 Rw2 => ⟨_, rfl, w2, d, r.1, r.2, cs, rfl, by rw [e] at Rw2; exact Rw2, fi kA kj hjm r.1 r.2 e, d3, fun H4 l zs s4 hl0 hl Rz' => gnm (nx _ _ ⟨l, zs, rfl, s4, hl0, hl, ?_⟩)⟩⟩
    unfold cC
    rw [e]
    exact Rz'
  rintro σ H3 ⟨o3, o4, o5, o6, cs, rfl, s3, d3, e3, l3⟩
  rw [lk, List.take_length] at e3
  refine ⟨_, _, _, _, _, _, cs, rfl, fun x o e => s3 x o (am e hd) (s2 _ _ (s1 _ _ e)), d3, ?_, by omega⟩
  rw [hti, List.flatMap_append, bQ, e1]
  show bP ns bs (p.2.pts ++ []) = _
  rw [List.append_nil]; exact e3
 rintro σ H1 ⟨o1, o2, o3, o4, o5, o6, bs, rfl, s1, d1, e1, l1⟩
 rw [lu, List.take_length] at e1
 refine ⟨_, rfl, d, _, rfl, d1, _, rfl, b, ws, rfl, .inr (SqT.of (s1 _ _ hb)), rfl, ?_⟩
 have qq := q H1 s1
 have e : oy ns ps = decide (V.int ((bdK bs).length : Nat) = V.int (ws.length : Nat)) := by
  unfold oy
  rw [e1, show (bdK bs).length = bs.length from List.length_map _, lw]
  show decide (bs.length = ns.length) = _
  by_cases z : bs.length = ns.length
  ·rw [decide_eq_true z, decide_eq_true (by rw [z])]
  ·rw [decide_eq_false z, decide_eq_false (fun y => z (by injection y with y; omega))]
 exact e ▸ qq
end
abbrev cp : Stmt := top 38
abbrev cI : Stmt := top 39
abbrev bV : Stmt := top 40
abbrev eh : Stmt := top 41
def eR : Dv -> Bool
 | .tup ds => gm 0 (.tup ds) && ds.all bJ
 | _ => false
def eF : Dv -> Bool
 | .tup [a, b] => bJ a && decide (aR b <= 12)
 | _ => false
def dN : Dv -> Bool
 | .tup ds => gm 0 (.tup ds) && ds.all eF
 | _ => false
def exD (d : Dv) : Bool := decide (exN 8 d <= 40)
def yq : List Dv -> Bool
 | [e] => exD e
 | _ => false
def dfD : List Dv -> Bool
 | [a, b, c, e] => fO a && (eR b && (dN c && exD e))
 | _ => false
def dH : Dv -> Bool
 | .tup (.str x :: r) => if x = "ask" then yq r else decide (x = "def") && dfD r
 | _ => false
theorem oM (e : Dv) : dH (.tup [.str "ask", e]) = exD e := by rw [dH, if_pos rfl]; rfl
theorem pK (a b c e : Dv) : dH (.tup [.str "def", a, b, c, e]) = (fO a && (eR b && (dN c && exD e))) := by
 have h : ¬ Str.ofString "def" = Str.ofString "ask" := by decide +kernel
 rw [dH, if_neg h, decide_eq_true rfl, Bool.true_and]; rfl
theorem uR {d : Dv} (h : eI d = false) : dH d = false := by
 match d, h with
 | .tup (.str x :: r), h => cases h
 | .tup [], _ => rfl
 | .tup (.non :: r), _ => rfl
 | .tup (.bl _ :: r), _ => rfl
 | .tup (.int _ :: r), _ => rfl
 | .tup (.tup _ :: r), _ => rfl
 | .tup (.lst _ :: r), _ => rfl
 | .tup (.dct :: r), _ => rfl
 | .non, _ => rfl
 | .bl _, _ => rfl
 | .int _, _ => rfl
 | .str _, _ => rfl
 | .lst _, _ => rfl
 | .dct, _ => rfl
theorem pT {ds : List Dv} (h : ∀ a b, ds ≠ [a, b]) : eF (.tup ds) = false := by
 match ds with
 | [] => rfl
 | [_] => rfl
 | [a, b] => exact absurd rfl (h a b)
 | _ :: _ :: _ :: _ => rfl
theorem oI {ds : List Dv} (h : gm 0 (.tup ds) = true) : ds.length <= 4 := by
 simp only [gm, Bool.and_eq_true, decide_eq_true_eq] at h
 omega
section
variable {P : Program} {w : World} {K : PySem.W.Frag} {mg : Str -> Option Value} {base : Heap}
theorem jV : aH ["thing"] ["thing"] (ai cp) := ⟨rfl, rfl, rfl, by decide +kernel, rfl, by decide +kernel, by decide +kernel⟩
theorem kE {f : Addr} {fd : FuncData} {k : Nat} (F : Fun K "are_names" "are_names" cp f fd) (T : Txt K mg) (Dis_few : Def P w K mg base k "is_few" ["thing", "least"] mM) (Dis_name : Def P w K mg base k "is_name" ["thing"] (spS bJ)) : bi P w K mg base CX0 (k + 1) f fd ["thing"] (spS eR) := by
 refine F.ok jV (fun vs H Q E h => ?_) (fun cdv A outer s H vs Q E hr h => ?_)
 ·obtain ⟨v, d, rfl, _⟩ := h
  rfl
 obtain ⟨v, d, rfl, R, sm, q⟩ := h
 refine ⟨_, (@ah _ _ _ (@ar _ _ _ _ (@bm _ _ _ _ _ _ _ (@au _ _ _ _ _ _ _ _ _ _ Dis_few hr rfl (@aa _ _ _ _ _ (@pv _ 0 _ _ (by rfl) (by trivial) (by decide) (by decide)) (@aa _ _ _ _ _ (@ac _ _ _ _) (@ab _) (by rfl)) (by rfl)) (by decide) (by rfl) (by rfl)) (@bH _ _ _ _ _ (@ax _ _ _ _ _ _ _ _ _ (gj rfl) rfl T.all (by decide +kernel) (@aa _ _ _ _ _ (@ga _ _ (["name"]) ([]) _ _ _ _ _ _ _ _ _ (@eW _ _ _ _ (@pv _ 0 _ _ (by rfl) (by trivial) (by decide) (by decide))) (.of rfl) rfl (fun _ _ _ => aK (i := 0) (dG (l := ["name"]) ((by decide +kernel)) rfl) rfl (Or.inl rfl)) (cz (by decide)) (fun _ _ _ => (@cx _)) (fun _ _ _ => (@au _ _ _ _ _ _ _ _ _ _ Dis_name hr rfl (@aa _ _ _ _ _ (@pv _ 0 _ _ (by rfl) (by trivial) (by decide) (by decide)) (@ab _) (by rfl)) (by decide) (by rfl) (by rfl))) (by intro _; rfl)) (@ab _) (by rfl)) (by decide) (by decide) (by rfl) (by rfl)))))), ?_⟩
 refine ⟨_, rfl, v, d, 0, rfl, R, fun H1 s1 => ⟨_, rfl, ?_⟩⟩
 have qq := q H1 s1
 cases d with
 | tup ds =>
  have qd : ∀ b H', ao H H' -> (gm 0 (.tup ds) && ds.all bJ) = b -> Q (.bl b) H' := fun b H' s' e => e ▸ q H' s'
  cases c0 : gm 0 (.tup ds) with
  | false => exact aM (qd _ H1 s1 (by rw [c0]; rfl))
  | true =>
   obtain ⟨a, us, rfl, ha, ru⟩ := Rep.tup_inv R
   have hl := ru.length
   have l4 := oI c0
   refine aO ⟨_, rfl, a, rfl, ⟨us, SqT.of (s1 _ _ ha)⟩, gp (xs := us) (fun i ys H' => ao H H' /\ ys = (ds.take i).map fun p => V.bl (bJ p)) ⟨s1, rfl⟩ (fun i ys H' _ p => SqT.of (p.1 _ _ ha)) ?_ ?_⟩
   ·rintro i ys H2 x hx ⟨s2, rfl⟩
    obtain ⟨d, hd, Rd⟩ := ru.get hx
    have hi := (List.getElem?_eq_some_iff.mp hd).1
    refine cn ⟨_, rfl, x, d, rfl, Rd.mono s2, dE sm d (List.mem_of_getElem? hd), fun H3 s3 => ⟨?_, s2.trans s3, ?_⟩⟩
    ·rw [List.length_map, List.length_take, sizeLine_eq]; omega
    ·rw [List.take_add_one, hd, List.map_append]; rfl
   ·rintro ys H2 ⟨s2, rfl⟩ r hr'
    rw [hl, List.take_length]
    refine ⟨r, ds.map bJ, rfl, SqL.of (by rw [ad, List.map_map]; rfl), ?_⟩
    exact qd _ _ (s2.trans (af hr' _)) (by rw [c0, List.all_map]; rfl)
 | _ => exact aM qq
theorem lX : aH ["thing"] ["thing"] (ai cI) := ⟨rfl, rfl, rfl, by decide +kernel, rfl, by decide +kernel, by decide +kernel⟩
theorem le {f : Addr} {fd : FuncData} {k : Nat} (F : Fun K "is_param" "is_param" cI f fd) (T : Txt K mg) (Dis_name : Def P w K mg base k "is_name" ["thing"] (spS bJ)) (Dis_kind : Def P w K mg base k "is_kind" ["thing"] fW) : bi P w K mg base CX0 (k + 1) f fd ["thing"] (spS eF) := by
 refine F.ok lX (fun vs H Q E h => ?_) (fun cdv A outer s H vs Q E hr h => ?_)
 ·obtain ⟨v, d, rfl, _⟩ := h
  rfl
 obtain ⟨v, d, rfl, R, sm, q⟩ := h
 refine ⟨_, (@ah _ _ _ (@ar _ _ _ _ (@bm _ _ _ _ _ _ _ (@ax _ _ _ _ _ _ _ _ _ bB rfl T.isinstance (by decide +kernel) (@aa _ _ _ _ _ (@pv _ 0 _ _ (by rfl) (by trivial) (by decide) (by decide)) (@aa _ _ _ _ _ (@bX _ _ (.ty "tuple") _ _ rfl T.tuple (by decide +kernel) rfl (by decide) (by decide)) (@ab _) (by rfl)) (by rfl)) (by decide) (by decide) (by rfl) (by rfl)) (@bm _ _ _ _ _ _ _ (@bd _ _ _ _ _ _ _ _ aU (@ax _ _ _ _ _ _ _ _ _ aI rfl T.len (by decide +kernel) (@aa _ _ _ _ _ (@pv _ 0 _ _ (by rfl) (by trivial) (by decide) (by decide)) (@ab _) (by rfl)) (by decide) (by decide) (by rfl) (by rfl)) (@ac _ _ _ _) (aq _)) (@bm _ _ _ _ _ _ _ (@au _ _ _ _ _ _ _ _ _ _ Dis_name hr rfl (@aa _ _ _ _ _ (@ay _ _ _ _ _ _ _ aB (@pv _ 0 _ _ (by rfl) (by trivial) (by decide) (by decide)) (@ac _ _ _ _) (fun _ _ => rfl)) (@ab _) (by rfl)) (by decide) (by rfl) (by rfl)) (@bH _ _ _ _ _ (@au _ _ _ _ _ _ _ _ _ _ Dis_kind hr rfl (@aa _ _ _ _ _ (@ay _ _ _ _ _ _ _ aB (@pv _ 0 _ _ (by rfl) (by trivial) (by decide) (by decide)) (@ac _ _ _ _) (fun _ _ => rfl)) (@ab _) (by rfl)) (by decide) (by rfl) (by rfl)))))))), ?_⟩
 refine ⟨_, rfl, v, _, _, _, rfl, R.ty, dh K d, _, rfl, ?_⟩
 have qq := q H (ao.refl H)
 cases d with
 | tup ds =>
  obtain ⟨a, vs, rfl, ha, rs⟩ := Rep.tup_inv R
  have hl := rs.length
  refine aO ⟨_, rfl, a, vs, rfl, .inr (SqT.of ha), rfl, _, rfl, ?_⟩
  rcases nN ds with ⟨d0, d1, rfl⟩ | no
  ·obtain ⟨x, y, rfl, R0, R1⟩ := aj.two rs
   obtain ⟨z0, z1⟩ := jW sm
   have qe : ∀ c H', ao H H' -> (bJ d0 && decide (aR d1 <= 12)) = c -> Q (.bl c) H' := fun c H' s1 e => e ▸ q H' s1
   refine aO ⟨_, rfl, a, _, 0, x, rfl, rfl, SqT.of ha, ak (j := 0) rfl, x, d0, rfl, R0, z0, fun H1 s1 => ⟨_, rfl, ?_⟩⟩
   cases c0 : bJ d0 with
   | false => exact aM (qe _ H1 s1 (by rw [c0]; rfl))
   | true => exact aO ⟨_, rfl, a, _, 1, y, rfl, rfl, SqT.of (s1 _ _ ha), ak (j := 1) rfl, y, d1, rfl, R1.mono s1, z1, fun H2 s2 => qe _ H2 (s1.trans s2) (by rw [c0]; rfl)⟩
  ·have hn : ¬ (V.int ((vs.length : Nat) : Int) = V.int 2) := fun e => kr no (by injection e with e; omega)
   rw [decide_eq_false hn]
   rw [pT no] at qq
   exact aM qq
 | _ => exact aM qq
theorem iZ : aH ["thing"] ["thing"] (ai bV) := ⟨rfl, rfl, rfl, by decide +kernel, rfl, by decide +kernel, by decide +kernel⟩
theorem jc {f : Addr} {fd : FuncData} {k : Nat} (F : Fun K "are_params" "are_params" bV f fd) (T : Txt K mg) (Dis_few : Def P w K mg base k "is_few" ["thing", "least"] mM) (Dis_param : Def P w K mg base k "is_param" ["thing"] (spS eF)) : bi P w K mg base CX0 (k + 1) f fd ["thing"] (spS dN) := by
 refine F.ok iZ (fun vs H Q E h => ?_) (fun cdv A outer s H vs Q E hr h => ?_)
 ·obtain ⟨v, d, rfl, _⟩ := h
  rfl
 obtain ⟨v, d, rfl, R, sm, q⟩ := h
 refine ⟨_, (@ah _ _ _ (@ar _ _ _ _ (@bm _ _ _ _ _ _ _ (@au _ _ _ _ _ _ _ _ _ _ Dis_few hr rfl (@aa _ _ _ _ _ (@pv _ 0 _ _ (by rfl) (by trivial) (by decide) (by decide)) (@aa _ _ _ _ _ (@ac _ _ _ _) (@ab _) (by rfl)) (by rfl)) (by decide) (by rfl) (by rfl)) (@bH _ _ _ _ _ (@ax _ _ _ _ _ _ _ _ _ (gj rfl) rfl T.all (by decide +kernel) (@aa _ _ _ _ _ (@ga _ _ (["param"]) ([]) _ _ _ _ _ _ _ _ _ (@eW _ _ _ _ (@pv _ 0 _ _ (by rfl) (by trivial) (by decide) (by decide))) (.of rfl) rfl (fun _ _ _ => aK (i := 0) (dG (l := ["param"]) ((by decide +kernel)) rfl) rfl (Or.inl rfl)) (cz (by decide)) (fun _ _ _ => (@cx _)) (fun _ _ _ => (@au _ _ _ _ _ _ _ _ _ _ Dis_param hr rfl (@aa _ _ _ _ _ (@pv _ 0 _ _ (by rfl) (by trivial) (by decide) (by decide)) (@ab _) (by rfl)) (by decide) (by rfl) (by rfl))) (by intro _; rfl)) (@ab _) (by rfl)) (by decide) (by decide) (by rfl) (by rfl)))))), ?_⟩
 refine ⟨_, rfl, v, d, 0, rfl, R, fun H1 s1 => ⟨_, rfl, ?_⟩⟩
 have qq := q H1 s1
 cases d with
 | tup ds =>
  have qd : ∀ b H', ao H H' -> (gm 0 (.tup ds) && ds.all eF) = b -> Q (.bl b) H' := fun b H' s' e => e ▸ q H' s'
  cases c0 : gm 0 (.tup ds) with
  | false => exact aM (qd _ H1 s1 (by rw [c0]; rfl))
  | true =>
   obtain ⟨a, us, rfl, ha, ru⟩ := Rep.tup_inv R
   have hl := ru.length
   have l4 := oI c0
   refine aO ⟨_, rfl, a, rfl, ⟨us, SqT.of (s1 _ _ ha)⟩, gp (xs := us) (fun i ys H' => ao H H' /\ ys = (ds.take i).map fun p => V.bl (eF p)) ⟨s1, rfl⟩ (fun i ys H' _ p => SqT.of (p.1 _ _ ha)) ?_ ?_⟩
   ·rintro i ys H2 x hx ⟨s2, rfl⟩
    obtain ⟨d, hd, Rd⟩ := ru.get hx
    have hi := (List.getElem?_eq_some_iff.mp hd).1
    refine cn ⟨_, rfl, x, d, rfl, Rd.mono s2, dE sm d (List.mem_of_getElem? hd), fun H3 s3 => ⟨?_, s2.trans s3, ?_⟩⟩
    ·rw [List.length_map, List.length_take, sizeLine_eq]; omega
    ·rw [List.take_add_one, hd, List.map_append]; rfl
   ·rintro ys H2 ⟨s2, rfl⟩ r hr'
    rw [hl, List.take_length]
    refine ⟨r, ds.map eF, rfl, SqL.of (by rw [ad, List.map_map]; rfl), ?_⟩
    exact qd _ _ (s2.trans (af hr' _)) (by rw [c0, List.all_map]; rfl)
 | _ => exact aM qq
theorem qW : aH ["thing"] ["thing"] (ai eh) := ⟨rfl, rfl, rfl, by decide +kernel, rfl, by decide +kernel, by decide +kernel⟩
theorem qK {f : Addr} {fd : FuncData} {k : Nat} (F : Fun K "is_row" "is_row" eh f fd) (T : Txt K mg) (Dhas_word : Def P w K mg base k "has_word" ["thing"] (spD eI)) (Dis_expression : Def P w K mg base k "is_expression" ["thing"] ip) (Dis_def_name : Def P w K mg base k "is_def_name" ["thing"] (spS fO)) (Dare_names : Def P w K mg base k "are_names" ["thing"] (spS eR)) (Dare_params : Def P w K mg base k "are_params" ["thing"] (spS dN)) : bi P w K mg base CX0 (k + 1) f fd ["thing"] (spS dH) := by
 refine F.ok qW (fun vs H Q E h => ?_) (fun cdv A outer s H vs Q E hr h => ?_)
 ·obtain ⟨v, d, rfl, _⟩ := h
  rfl
 obtain ⟨v, d, rfl, R, sm, q⟩ := h
 refine ⟨_, (@ae _ _ _ _ _ (@aN _ _ _ _ _ _ _ _ (@bM _ _ _ _ (@bF _ _ _ (@au _ _ _ _ _ _ _ _ _ _ Dhas_word hr rfl (@aa _ _ _ _ _ (@pv _ 0 _ _ (by rfl) (by trivial) (by decide) (by decide)) (@ab _) (by rfl)) (by decide) (by rfl) (by rfl)) (by intro _; rfl))) (@ah _ _ _ (@ar _ _ _ _ (@bN _ _ _ _))) (@av _)) (@ae _ _ _ _ _ (@aN _ _ _ _ _ _ _ _ (@ap _ _ _ _ _ _ _ _ aU (@ay _ _ _ _ _ _ _ aB (@pv _ 0 _ _ (by rfl) (by trivial) (by decide) (by decide)) (@ac _ _ _ _) (fun _ _ => rfl)) (@aD _ _ _ _) (aq _)) (@ah _ _ _ (@ar _ _ _ _ (@bm _ _ _ _ _ _ _ (@bd _ _ _ _ _ _ _ _ aU (@ax _ _ _ _ _ _ _ _ _ aI rfl T.len (by decide +kernel) (@aa _ _ _ _ _ (@pv _ 0 _ _ (by rfl) (by trivial) (by decide) (by decide)) (@ab _) (by rfl)) (by decide) (by decide) (by rfl) (by rfl)) (@ac _ _ _ _) (aq _)) (@bH _ _ _ _ _ (@au _ _ _ _ _ _ _ _ _ _ Dis_expression hr rfl (@aa _ _ _ _ _ (@ay _ _ _ _ _ _ _ aB (@pv _ 0 _ _ (by rfl) (by trivial) (by decide) (by decide)) (@ac _ _ _ _) (fun _ _ => rfl)) (@ab _) (by rfl)) (by decide) (by rfl) (by rfl)))))) (@av _)) (@ae _ _ _ _ _ (@aN _ _ _ _ _ _ _ _ (@PW.pt _ _ _ (@cD _ _ _ _ _ _ _ (@ap _ _ _ _ _ _ _ _ fP (@ay _ _ _ _ _ _ _ aB (@pv _ 0 _ _ (by rfl) (by trivial) (by decide) (by decide)) (@ac _ _ _ _) (fun _ _ => rfl)) (@aD _ _ _ _) (aq _)) (@cj _ _ _ _ (@ap _ _ _ _ _ _ _ _ fP (@ax _ _ _ _ _ _ _ _ _ aI rfl T.len (by decide +kernel) (@aa _ _ _ _ _ (@pv _ 0 _ _ (by rfl) (by trivial) (by decide) (by decide)) (@ab _) (by rfl)) (by decide) (by decide) (by rfl) (by rfl)) (@ac _ _ _ _) (aq _))))) (@ah _ _ _ (@ar _ _ _ _ (@bN _ _ _ _))) (@av _)) (@ah _ _ _ (@ar _ _ _ _ (@bm _ _ _ _ _ _ _ (@au _ _ _ _ _ _ _ _ _ _ Dis_def_name hr rfl (@aa _ _ _ _ _ (@ay _ _ _ _ _ _ _ aB (@pv _ 0 _ _ (by rfl) (by trivial) (by decide) (by decide)) (@ac _ _ _ _) (fun _ _ => rfl)) (@ab _) (by rfl)) (by decide) (by rfl) (by rfl)) (@bm _ _ _ _ _ _ _ (@au _ _ _ _ _ _ _ _ _ _ Dare_names hr rfl (@aa _ _ _ _ _ (@ay _ _ _ _ _ _ _ aB (@pv _ 0 _ _ (by rfl) (by trivial) (by decide) (by decide)) (@ac _ _ _ _) (fun _ _ => rfl)) (@ab _) (by rfl)) (by decide) (by rfl) (by rfl)) (@bm _ _ _ _ _ _ _ (@au _ _ _ _ _ _ _ _ _ _ Dare_params hr rfl (@aa _ _ _ _ _ (@ay _ _ _ _ _ _ _ aB (@pv _ 0 _ _ (by rfl) (by trivial) (by decide) (by decide)) (@ac _ _ _ _) (fun _ _ => rfl)) (@ab _) (by rfl)) (by decide) (by rfl) (by rfl)) (@bH _ _ _ _ _ (@au _ _ _ _ _ _ _ _ _ _ Dis_expression hr rfl (@aa _ _ _ _ _ (@ay _ _ _ _ _ _ _ aB (@pv _ 0 _ _ (by rfl) (by trivial) (by decide) (by decide)) (@ac _ _ _ _) (fun _ _ => rfl)) (@ab _) (by rfl)) (by decide) (by rfl) (by rfl))))))))))), ?_⟩
 refine ⟨_, rfl, v, d, rfl, R, fun H1 s1 => ⟨_, rfl, ?_⟩⟩
 cases c0 : eI d with
 | false =>
  refine aO ?_
  have := q H1 s1
  rwa [uR c0] at this
 | true =>
  refine aM ?_
  obtain ⟨x, r, rfl⟩ := fE c0
  obtain ⟨a, vs, rfl, ha, rs⟩ := Rep.tup_inv (R.mono s1)
  simp only [aj] at rs
  obtain ⟨y, us, rfl, R0, ru⟩ := rs
  obtain rfl : y = .str x := R0
  have hl := ru.length
  have sr : ∀ d ∈ r, d.small = true := fun d hd => dE sm d (List.mem_cons_of_mem _ hd)
  have qd : ∀ b H', ao H1 H' -> dH (.tup (.str x :: r)) = b -> Q (.bl b) H' := fun b H' s' e => e ▸ q H' (s1.trans s')
  refine ⟨_, rfl, a, _, 0, .str x, rfl, rfl, SqT.of ha, ak (j := 0) rfl, rfl, _, rfl, ?_⟩
  show if decide (V.str x = V.str "ask") = true then _ else _
  rw [bO]
  by_cases h1 : x = "ask"
  ·subst h1
   rw [decide_eq_true rfl]
   refine aO ⟨_, rfl, a, _, rfl, .inr (SqT.of ha), rfl, _, rfl, ?_⟩
   show if decide (V.int _ = V.int ((2 : Nat) : Int)) = true then _ else _
   rw [fh (x := .str "ask") hl 1 2 rfl]
   by_cases z : r.length = 1
   ·rw [decide_eq_true z]
    match r, us, z, ru, sr, qd with
    | [e], us, _, ru, sr, qd =>
     simp only [aj] at ru
     obtain ⟨u, rest, rfl, Ru, rfl⟩ := ru
     exact aO ⟨_, rfl, a, _, 1, u, rfl, rfl, SqT.of ha, ak (j := 1) rfl, u, e, rfl, Ru, sr e List.mem_cons_self, fun H2 s2 => qd _ H2 s2 (oM e)⟩
   ·rw [decide_eq_false z]
    refine aM (qd _ H1 (ao.refl _) ?_)
    rw [dH, if_pos rfl]
    match r, z with
    | [], _ => rfl
    | [e], z => exact absurd rfl z
    | _ :: _ :: _, _ => rfl
  rw [decide_eq_false h1]
  refine aM ⟨_, rfl, a, _, 0, .str x, rfl, rfl, SqT.of ha, ak (j := 0) rfl, rfl, _, rfl, ?_⟩
  show if (!decide (V.str x = V.str "def")) = true then _ else _
  rw [bO]
  by_cases h2 : x = "def"
  ·subst h2
   rw [decide_eq_true rfl]
   refine aM ⟨_, rfl, a, _, rfl, .inr (SqT.of ha), rfl, _, rfl, ?_⟩
   show if (!decide (V.int _ = V.int ((5 : Nat) : Int))) = true then _ else _
   rw [fh (x := .str "def") hl 4 5 rfl]
   by_cases z : r.length = 4
   ·rw [decide_eq_true z]
    match r, us, z, ru, sr, qd with
    | [d1, d2, d3, d4], us, _, ru, sr, qd =>
     simp only [aj] at ru
     obtain ⟨u1, _, rfl, R1, u2, _, rfl, R2, u3, _, rfl, R3, u4, _, rfl, R4, rfl⟩ := ru
     have qf : ∀ b H', ao H1 H' -> (fO d1 && (eR d2 && (dN d3 && exD d4))) = b -> Q (.bl b) H' := fun b H' s' e => qd b H' s' ((pK _ _ _ _).trans e)
     refine aM ⟨_, rfl, a, _, 1, u1, rfl, rfl, SqT.of ha, ak (j := 1) rfl, u1, d1, rfl, R1, sr d1 (by simp), fun H2 s2 => ⟨_, rfl, ?_⟩⟩
     cases c1 : fO d1 with
     | false => exact aM (qf _ H2 s2 (by rw [c1]; rfl))
     | true =>
      refine aO ⟨_, rfl, a, _, 2, u2, rfl, rfl, SqT.of (s2 _ _ ha), ak (j := 2) rfl, u2, d2, rfl, R2.mono s2, sr d2 (by simp), fun H3 s3 => ⟨_, rfl, ?_⟩⟩
      cases c2 : eR d2 with
      | false => exact aM (qf _ H3 (s2.trans s3) (by rw [c1, c2]; rfl))
      | true =>
       refine aO ⟨_, rfl, a, _, 3, u3, rfl, rfl, SqT.of (s3 _ _ (s2 _ _ ha)), ak (j := 3) rfl, u3, d3, rfl, R3.mono (s2.trans s3), sr d3 (by simp), fun H4 s4 => ⟨_, rfl, ?_⟩⟩
       cases c3 : dN d3 with
       | false => exact aM (qf _ H4 (s2.trans (s3.trans s4)) (by rw [c1, c2, c3]; rfl))
       | true => exact aO ⟨_, rfl, a, _, 4, u4, rfl, rfl, SqT.of (s4 _ _ (s3 _ _ (s2 _ _ ha))), ak (j := 4) rfl, u4, d4, rfl, R4.mono (s2.trans (s3.trans s4)), sr d4 (by simp), fun H5 s5 => qf _ H5 (s2.trans (s3.trans (s4.trans s5))) (by rw [c1, c2, c3]; rfl)⟩
   ·rw [decide_eq_false z]
    refine aO (qd _ H1 (ao.refl _) ?_)
    rw [dH, if_neg h1, decide_eq_true rfl, Bool.true_and]
    match r, z with
    | [], _ => rfl
    | [_], _ => rfl
    | [_, _], _ => rfl
    | [_, _, _], _ => rfl
    | [_, _, _, _], z => exact absurd rfl z
    | _ :: _ :: _ :: _ :: _ :: _, _ => rfl
  rw [decide_eq_false h2]
  refine aO (aO (qd _ H1 (ao.refl _) ?_))
  rw [dH, if_neg h1, decide_eq_false h2]; rfl
end
abbrev cO : Stmt := top 42
abbrev cw : Stmt := top 46
abbrev cu : Stmt := top 47
abbrev ca : Stmt := top 48
abbrev dr : Stmt := top 49
theorem pH : ∀ {ys : List Str}, ¬ ys.Nodup -> ∃ zs : List Str, zs.length < ys.length /\ ∀ x ∈ ys, x ∈ zs
 | [], h => absurd List.nodup_nil h
 | y :: ys, h => by
  by_cases hy : y ∈ ys
  ·exact ⟨ys, Nat.lt_succ_self _, fun x hx => by rcases List.mem_cons.mp hx with rfl | hx; exact hy; exact hx⟩
  ·obtain ⟨zs, h1, h2⟩ := pH (ys := ys) fun z => h (List.nodup_cons.mpr ⟨hy, z⟩)
   exact ⟨y :: zs, Nat.succ_lt_succ h1, fun x hx => by
    rcases List.mem_cons.mp hx with rfl | hx
    ·exact List.mem_cons_self
    ·exact List.mem_cons_of_mem _ (h2 x hx)⟩
theorem rO {zs ys : List Str} (nd : zs.Nodup) (h : ∀ x, x ∈ zs ↔ x ∈ ys) : decide ((zs.length : Int) < (ys.length : Int)) = !decide ys.Nodup := by
 by_cases n : ys.Nodup
 ·have := length_le_of_nodup_of_subset ys zs n fun x hx => (h x).mpr hx
  rw [decide_eq_true n, decide_eq_false (by omega)]; rfl
 ·obtain ⟨xs, h1, h2⟩ := pH n
  have := length_le_of_nodup_of_subset zs xs nd fun x hx => h2 x ((h x).mp hx)
  rw [decide_eq_false n, decide_eq_true (by omega)]; rfl
def jQ (K : PySem.W.Frag) : Sp := fun vs H Q _ => ∃ (l : Addr) (ys : List Str), vs = [.ref l] /\ (SqL K H l (ys.map V.str) \/ SqT K H l (ys.map V.str)) /\ ys.length <= 1000 /\ ∀ H', ao H H' -> Q (.bl (!decide ys.Nodup)) H'
inductive Rw where
 | ask (e : Dv)
 | df (f : Str) (ns : List Str) (ps : List Prm) (e : Dv)
def Rw.dv : Rw -> Dv
 | .ask e => .tup [.str "ask", e]
 | .df f ns ps e => .tup [.str "def", .str f, .tup (ns.map Dv.str), .tup (ps.map fD), e]
def Rw.f? : Rw -> List Str
 | .ask _ => []
 | .df f _ _ _ => [f]
def Rw.Ok : Rw -> Prop
 | .ask _ => True
 | .df _ ns ps _ => ns.Nodup /\ (ps.map (·.1)).Nodup /\ oy ns ps = true /\ ns.length <= 4 /\ ps.length <= 4 /\ ∀ p ∈ ps, p.2.size <= 12 /\ p.2.All L40
structure kz (rs : List Rw) : Prop where
 len : rs.length <= 12
 row : ∀ r ∈ rs, dH r.dv = true /\ r.dv.small = true
 ok : ∀ r ∈ rs, r.Ok
 nd : (rs.flatMap Rw.f?).Nodup
theorem pJ : ¬ (V.str (Str.ofString "ask") = V.str (Str.ofString "def")) := wne (by decide +kernel)
theorem Rw.inv {H : Hp} {r : Rw} {v : V} (R : Rep H r.dv v) : ∃ a, v = .ref a /\ match r with
  | .ask _ => ∃ u, H a = some (.tup [.str "ask", u])
  | .df f ns ps _ => ∃ b c u, H a = some (.tup [.str "def", .str f, .ref b, .ref c, u]) /\ Rep H (.tup (ns.map Dv.str)) (.ref b) /\ Rep H (.tup (ps.map fD)) (.ref c) := by
 cases r with
 | ask e =>
  obtain ⟨a, vs, rfl, ha, rs⟩ := Rep.tup_inv (show Rep H (.tup [.str "ask", e]) v from R)
  obtain ⟨x, y, rfl, r1, r2⟩ := aj.two rs
  simp only [Rep] at r1
  subst r1
  exact ⟨a, rfl, y, ha⟩
 | df f ns ps e =>
  obtain ⟨a, vs, rfl, ha, rs⟩ := Rep.tup_inv (show Rep H (.tup [.str "def", .str f, .tup (ns.map Dv.str), .tup (ps.map fD), e]) v from R)
  simp only [aj] at rs
  obtain ⟨u1, _, rfl, R1, u2, _, rfl, R2, u3, _, rfl, R3, u4, _, rfl, R4, u5, _, rfl, R5, rfl⟩ := rs
  simp only [Rep] at R1 R2
  subst R1; subst R2
  obtain ⟨b, _, rfl, _⟩ := Rep.tup_inv R3
  obtain ⟨c, _, rfl, _⟩ := Rep.tup_inv R4
  exact ⟨a, rfl, b, c, u5, ha, R3, R4⟩
theorem en {H : Hp} : ∀ {ns : List Str} {ws : List V}, aj H (ns.map Dv.str) ws -> ws = ns.map V.str
 | [], ws, h => by simpa only [List.map_nil, aj] using h
 | n :: ns, ws, h => by
  simp only [List.map_cons, aj] at h
  obtain ⟨v, r, rfl, h1, h2⟩ := h
  simp only [Rep] at h1
  rw [h1, en h2]; rfl
def et (C : List Rw -> Prop) : Sp := fun vs H Q _ => ∃ (l : Addr) (us : List V) (rs : List Rw), vs = [.ref l] /\ H l = some (.lst us) /\ aj H (rs.map Rw.dv) us /\ C rs /\ rs.length <= 12 /\ ∀ H', ao H H' -> Q .non H'
theorem ao.seqT {K : PySem.W.Frag} {H H' : Hp} {a : Addr} {xs : List V} (e : ao H H') (h : SqT K H a xs) : SqT K H' a xs := by
 rcases h with h | h
 ·exact .inl (h.imp (fun z => e _ _ z) fun ⟨o, z⟩ => ⟨o, e _ _ z⟩)
 ·exact .inr h
section
variable {P : Program} {w : World} {K : PySem.W.Frag} {mg : Str -> Option Value} {base : Heap}
theorem lC : aH ["things"] ["things"] (ai cO) := ⟨rfl, rfl, rfl, by decide +kernel, rfl, by decide +kernel, by decide +kernel⟩
theorem lA {f : Addr} {fd : FuncData} (F : Fun K "is_twice" "is_twice" cO f fd) (T : Txt K mg) : bi P w K mg base CX0 1 f fd ["things"] (jQ K) := by
 refine F.ok lC (fun vs H Q E h => ?_) (fun cdv A outer s H vs Q E hr h => ?_)
 ·obtain ⟨l, ys, rfl, _⟩ := h
  rfl
 obtain ⟨l, ys, rfl, hs, hl, q⟩ := h
 refine ⟨_, (@ah _ _ _ (@ar _ _ _ _ (@bd _ _ _ _ _ _ _ _ rq (@ax _ _ _ _ _ _ _ _ _ qN rfl T.len (by decide +kernel) (@aa _ _ _ _ _ (@dw _ _ _ _ _ _ _ _ _ (qh rfl) rfl T.set (by decide +kernel) (@aa _ _ _ _ _ (@pv _ 0 _ _ (by rfl) (by trivial) (by decide) (by decide)) (@ab _) (by rfl)) (by decide) (by decide) (by rfl) (by rfl)) (@ab _) (by rfl)) (by decide) (by decide) (by rfl) (by rfl)) (@ax _ _ _ _ _ _ _ _ _ aI rfl T.len (by decide +kernel) (@aa _ _ _ _ _ (@pv _ 0 _ _ (by rfl) (by trivial) (by decide) (by decide)) (@ab _) (by rfl)) (by decide) (by decide) (by rfl) (by rfl)) (aq _)))), ?_⟩
 refine ⟨_, rfl, l, ys, rfl, hs, hl, fun a zs ha nd mz lz => ⟨a, zs, rfl, ad, ?_⟩⟩
 have s1 := af ha (jg P w a zs)
 have hs1 : SqL K (upd H a (jg P w a zs)) l (ys.map V.str) \/ SqT K (upd H a (jg P w a zs)) l (ys.map V.str) := hs.imp (fun h => s1.seq h) (fun h => ao.seqT s1 h)
 refine ⟨_, rfl, l, _, rfl, hs1, _, _, rfl, rfl, ?_⟩
 show Q (.bl (decide ((zs.length : Int) < ((ys.map V.str).length : Nat)))) _
 rw [List.length_map, rO nd mz]
 exact q _ s1
theorem gc : aH ["rows", "number", "row"] ["rows"] (ai cw) := ⟨rfl, rfl, rfl, by decide +kernel, rfl, by decide +kernel, by decide +kernel⟩
theorem kX {f : Addr} {fd : FuncData} {k : Nat} (F : Fun K "hold_rows" "hold_rows" cw f fd) (T : Txt K mg) (Dis_row : Def P w K mg base k "is_row" ["thing"] (spS dH)) : bi P w K mg base CX0 (k + 1) f fd ["rows"] (et fun rs => ∀ r ∈ rs, dH r.dv = true /\ r.dv.small = true) := by
 have nd : (["rows", "number", "row"] : List Str).Nodup := gc.nd
 refine F.ok gc (fun vs H Q E h => ?_) (fun cdv A outer s H vs Q E hr h => ?_)
 ·obtain ⟨l, us, rs, rfl, _⟩ := h
  rfl
 obtain ⟨l, us, rs, rfl, hl, Ru, hC, l12, q⟩ := h
 refine ⟨_, (@ah _ _ _ (@cB _ _ _ _ _ _ _ _ PassesOwn.never rfl (@eZ _ _ _ _ _ _ _ _ rfl T.enumerate (@aa _ _ _ _ _ (@pv _ 0 _ _ (by rfl) (by trivial) (by decide) (by decide)) (@ab _) (by rfl)) (by rfl)) (@cW _ _ _ _ _ _ rfl (@aT _ _ _ _ _ (@aK _ _ (1) _ nd rfl (Or.inl rfl) (by trivial)) (@aT _ _ _ _ _ (@aK _ _ (2) _ nd rfl (Or.inl rfl) (by trivial)) (@cc _) (by rfl)) (by rfl)) (by rfl) (by rfl)) (@ah _ _ _ (@aN _ _ _ _ _ _ _ _ (@bM _ _ _ _ (@bF _ _ _ (@au _ _ _ _ _ _ _ _ _ _ Dis_row hr rfl (@aa _ _ _ _ _ (@pv _ 2 _ _ (by rfl) (by trivial) (by decide) (by decide)) (@ab _) (by rfl)) (by decide) (by rfl) (by rfl)) (by intro _; rfl))) (@ah _ _ _ (@hZ _ _)) (@av _))) (by intro _; rfl))), ?_⟩
 refine ⟨_, rfl, l, rfl, ⟨us, SqL.of hl⟩, eN (xs := us) (fun i σ H' => ∃ (o1 o2 : Option V), σ = [some (.ref l), o1, o2] /\ ao H H') ⟨_, _, rfl, ao.refl _⟩ (fun i σ H' _ ⟨_, _, _, s1⟩ => SqL.of (s1 _ _ hl)) ?T1 ?_⟩
 case T1 =>
  rintro i x σ H1 p hx ⟨o1, o2, rfl, s1⟩ hp
  obtain ⟨r, hr', Rx⟩ := dJ (f := Rw.dv) Ru hx
  obtain ⟨c1, c2⟩ := hC r (List.mem_of_getElem? hr')
  have s2 := s1.trans (af hp (.tup [.int i, x]))
  refine ⟨p, _, rfl, SqT.of ad, rfl, _, _, rfl, _, _, rfl, rfl, ?_⟩
  refine ⟨_, rfl, x, _, rfl, Rx.mono s2, c2, fun H2 s3 => ⟨_, rfl, ?_⟩⟩
  rw [c1]
  exact aM ⟨_, _, rfl, s2.trans s3⟩
 rintro σ H1 ⟨o1, o2, rfl, s1⟩
 exact q H1 s1
theorem gg : aH ["rows", "seen", "number", "row"] ["rows"] (ai cu) := ⟨rfl, rfl, rfl, by decide +kernel, rfl, by decide +kernel, by decide +kernel⟩
theorem kc {f : Addr} {fd : FuncData} {k : Nat} (F : Fun K "hold_once" "hold_once" cu f fd) (T : Txt K mg) (Dis_twice : Def P w K mg base k "is_twice" ["things"] (jQ K)) : bi P w K mg base CX0 (k + 1) f fd ["rows"] (et fun rs => (∀ r ∈ rs, r.Ok) /\ (rs.flatMap Rw.f?).Nodup) := by
 have nd : (["rows", "seen", "number", "row"] : List Str).Nodup := gg.nd
 refine F.ok gg (fun vs H Q E h => ?_) (fun cdv A outer s H vs Q E hr h => ?_)
 ·obtain ⟨l, us, rs, rfl, _⟩ := h
  rfl
 obtain ⟨l, us, rs, rfl, hl, Ru, ⟨hC, hN⟩, l12, q⟩ := h
 have hu := mW hr
 have lu : us.length = rs.length := by have := Ru.length; rwa [List.length_map] at this
 refine ⟨_, (@ae _ _ _ _ _ (@aJ _ _ (1) _ _ _ _ nd rfl (Or.inl rfl) (@iG _ _) (by rfl) (by trivial)) (@ah _ _ _ (@cB _ _ _ _ _ _ _ _ PassesOwn.never rfl (@eZ _ _ _ _ _ _ _ _ rfl T.enumerate (@aa _ _ _ _ _ (@pv _ 0 _ _ (by rfl) (by trivial) (by decide) (by decide)) (@ab _) (by rfl)) (by rfl)) (@cW _ _ _ _ _ _ rfl (@aT _ _ _ _ _ (@aK _ _ (2) _ nd rfl (Or.inl rfl) (by trivial)) (@aT _ _ _ _ _ (@aK _ _ (3) _ nd rfl (Or.inl rfl) (by trivial)) (@cc _) (by rfl)) (by rfl)) (by rfl) (by rfl)) (@ah _ _ _ (@aN _ _ _ _ _ _ _ _ (@ap _ _ _ _ _ _ _ _ aU (@ay _ _ _ _ _ _ _ aB (@pv _ 3 _ _ (by rfl) (by trivial) (by decide) (by decide)) (@ac _ _ _ _) (fun _ _ => rfl)) (@aD _ _ _ _) (aq _)) (@ae _ _ _ _ _ (@aN _ _ _ _ _ _ _ _ (@PW.pt _ _ _ (@cD _ _ _ _ _ _ _ (@ap _ _ _ _ _ _ _ _ (wp hu) (@ay _ _ _ _ _ _ _ aB (@pv _ 3 _ _ (by rfl) (by trivial) (by decide) (by decide)) (@ac _ _ _ _) (fun _ _ => rfl)) (@pv _ 1 _ _ (by rfl) (by trivial) (by decide) (by decide)) (by with_unfolding_all rfl)) (@cD _ _ _ _ _ _ _ (@bF _ _ _ (@au _ _ _ _ _ _ _ _ _ _ Dis_twice hr rfl (@aa _ _ _ _ _ (@ay _ _ _ _ _ _ _ aB (@pv _ 3 _ _ (by rfl) (by trivial) (by decide) (by decide)) (@ac _ _ _ _) (fun _ _ => rfl)) (@ab _) (by rfl)) (by decide) (by rfl) (by rfl)) (by intro _; rfl)) (@cj _ _ _ _ (@bF _ _ _ (@au _ _ _ _ _ _ _ _ _ _ Dis_twice hr rfl (@aa _ _ _ _ _ (@ga _ _ (["x", "kind"]) ([]) _ _ _ _ _ _ _ _ _ (@eW _ _ _ _ (@ay _ _ _ _ _ _ _ aB (@pv _ 3 _ _ (by rfl) (by trivial) (by decide) (by decide)) (@ac _ _ _ _) (fun _ _ => rfl))) (.of rfl) rfl (fun _ _ _ => cW rfl (@aT _ _ _ _ _ (@aK _ _ (0) _ (dG (l := ["x", "kind"]) ((by decide +kernel)) rfl) rfl (Or.inl rfl) (by trivial)) (@aT _ _ _ _ _ (@aK _ _ (1) _ (dG (l := ["x", "kind"]) ((by decide +kernel)) rfl) rfl (Or.inl rfl) (by trivial)) (@cc _) (by rfl)) (by rfl))) (ou (by decide) (by decide)) (fun _ _ _ => (@cx _)) (fun _ _ _ => (@pv _ 0 _ _ (by rfl) (by trivial) (by decide) (by decide))) (by intro _; rfl)) (@ab _) (by rfl)) (by decide) (by rfl) (by rfl)) (by intro _; rfl)))))) (@ah _ _ _ (@hZ _ _)) (@av _)) (@ah _ _ _ (@ic _ _ _ _ _ _ _ _ _ hu (@pv _ 1 _ _ (by rfl) (by trivial) (by decide) (by decide)) (@ay _ _ _ _ _ _ _ aB (@pv _ 3 _ _ (by rfl) (by trivial) (by decide) (by decide)) (@ac _ _ _ _) (fun _ _ => rfl)) (@bN _ _ _ _) rfl))) (@av _))) (by intro _; rfl)))), ?_⟩
 intro d hd
 have s0 : ao H (upd H d (.dK [])) := af hd _
 have d0 : upd H d (.dK []) d = some (.dK (bdK [])) := ad
 generalize upd H d (.dK []) = H0 at s0 d0 ⊢
 refine ⟨_, rfl, l, rfl, ⟨us, SqL.of (s0 _ _ hl)⟩, eN (xs := us) (fun i σ H' => ∃ (o1 o2 : Option V), σ = [some (.ref l), some (.ref d), o1, o2] /\ ao H H' /\ H' d = some (.dK (bdK ((rs.take i).flatMap Rw.f?)))) ⟨_, _, rfl, s0, d0⟩ (fun i σ H' _ ⟨_, _, _, s1, _⟩ => SqL.of (s1 _ _ hl)) ?T1 ?_⟩
 case T1 =>
  rintro i x σ H1 p hx ⟨o1, o2, rfl, s1, d1⟩ hp
  obtain ⟨r, hr', Rx⟩ := dJ (f := Rw.dv) Ru hx
  have hi : i < us.length := (List.getElem?_eq_some_iff.mp hx).1
  have ok := hC r (List.mem_of_getElem? hr')
  have hti : rs.take (i + 1) = rs.take i ++ [r] := by rw [List.take_add_one, hr']; rfl
  have hsub : ((rs.take (i + 1)).flatMap Rw.f?).Nodup := by
   have : rs.flatMap Rw.f? = (rs.take (i + 1)).flatMap Rw.f? ++ (rs.drop (i + 1)).flatMap Rw.f? := by rw [<- List.flatMap_append, List.take_append_drop]
   rw [this] at hN
   exact (List.nodup_append.mp hN).1
  have lf : ((rs.take i).flatMap Rw.f?).length <= 12 := by
   have h1 : ∀ l : List Rw, (l.flatMap Rw.f?).length <= l.length := by
    intro l
    induction l with
    | nil => simp
    | cons y l ih => rw [List.flatMap_cons, List.length_append, List.length_cons]; have : y.f?.length <= 1 := (by cases y <;> simp [Rw.f?]); omega
   have h2 := h1 (rs.take i)
   rw [List.length_take] at h2
   omega
  have s2 := s1.trans (af hp (.tup [.int i, x]))
  have d2 := af hp (.tup [.int i, x]) _ _ d1
  refine ⟨p, _, rfl, SqT.of ad, rfl, _, _, rfl, _, _, rfl, rfl, ?_⟩
  generalize upd H1 p (.tup [.int i, x]) = H2 at s2 d2 ⊢
  obtain ⟨a, rfl, inv⟩ := Rw.inv (Rx.mono s2)
  cases r with
  | ask e =>
   obtain ⟨u, ha⟩ := inv
   refine ⟨_, rfl, a, _, 0, .str "ask", rfl, rfl, SqT.of ha, ak (j := 0) rfl, rfl, _, rfl, bn (fun h => absurd (of_decide_eq_true h) pJ) (fun _ => ?_)⟩
   refine ⟨_, _, rfl, s2, ?_⟩
   rw [hti, List.flatMap_append]
   simpa [Rw.f?] using d2
  | df g ns ps e =>
   obtain ⟨b, c, u, ha, Rn, Rp⟩ := inv
   obtain ⟨n1, n2, _, n4, p4, _⟩ := ok
   refine ⟨_, rfl, a, _, 0, .str "def", rfl, rfl, SqT.of ha, ak (j := 0) rfl, rfl, _, rfl, bn (fun _ => ?_) (fun h => absurd (decide_eq_true rfl) h)⟩
   have gn : g ∉ (rs.take i).flatMap Rw.f? := by
    rw [hti, List.flatMap_append, List.nodup_append] at hsub
    exact fun z => hsub.2.2 g z g (by simp [Rw.f?]) rfl
   refine ⟨_, rfl, a, _, 1, .str g, rfl, rfl, SqT.of ha, ak (j := 1) rfl, _, rfl, d, _, rfl, om.k (k := Sum.inr g) d2, _, rfl, ?_⟩
   show if (eS (bdK ((rs.take i).flatMap Rw.f?)) (Sum.inr g)).isSome = true then _ else _
   rw [kH, decide_eq_false gn]
   obtain ⟨b', ws, e1, hb, Rw'⟩ := Rep.tup_inv Rn
   cases e1
   obtain ⟨c', zs, e2, hc, Rz⟩ := Rep.tup_inv Rp
   cases e2
   have ew : ws = ns.map V.str := en Rw'
   subst ew
   refine aM ⟨_, rfl, a, _, 2, .ref b, rfl, rfl, SqT.of ha, ak (j := 2) rfl, b, ns, rfl, .inr (SqT.of hb), by omega, fun H3 s3 => ⟨_, rfl, ?_⟩⟩
   rw [decide_eq_true n1]
   have lz : zs.length = ps.length := by have := Rz.length; rwa [List.length_map] at this
   refine aM ⟨_, rfl, a, _, 3, .ref c, rfl, rfl, SqT.of (s3 _ _ ha), ak (j := 3) rfl, c, rfl, ⟨zs, SqT.of (s3 _ _ hc)⟩, gp (xs := zs) (fun i ys H' => H' = H3 /\ ys = (ps.take i).map fun p => V.str p.1) ⟨rfl, rfl⟩ (fun i ys H' _ p => by rw [p.1]; exact SqT.of (s3 _ _ hc)) ?_ ?_⟩
   ·rintro i ys H' x hx ⟨rfl, rfl⟩
    obtain ⟨p, hp, Rx⟩ := dJ (f := fD) Rz hx
    obtain ⟨e, z, rfl, he, _⟩ := lV Rx
    refine iq (s3 _ _ he) ⟨_, rfl, ?_, rfl, ?_⟩
    ·rw [List.length_map, List.length_take, sizeLine_eq]; omega
    ·rw [List.take_add_one, hp, List.map_append]; rfl
   ·rintro ys H' ⟨rfl, rfl⟩ r hr''
    rw [lz, List.take_length]
    have s4 := af hr'' (.lst (ps.map fun p => V.str p.1))
    refine ⟨r, ps.map (·.1), rfl, .inl (SqL.of (by rw [ad, List.map_map]; rfl)), by rw [List.length_map]; omega, fun H5 s5 => ⟨_, rfl, ?_⟩⟩
    rw [decide_eq_true n2]
    have s25 := s3.trans (s4.trans s5)
    refine aM ⟨_, rfl, _, rfl, a, _, 1, .str g, rfl, rfl, SqT.of (s25 _ _ ha), ak (j := 1) rfl, d, _, rfl, mv.k (k := Sum.inr g) (s25 _ _ d2) ?_, ?_⟩
    ·rw [show (bdK ((rs.take i).flatMap Rw.f?)).length = ((rs.take i).flatMap Rw.f?).length from List.length_map _, sizeLine_eq]; omega
    ·refine ⟨_, _, rfl, fun x o e => by rw [aE (am e hd)]; exact s25 _ _ (s2 _ _ e), ?_⟩
     rw [ad, rY gn, hti, List.flatMap_append]
     rfl
 rintro σ H1 ⟨o1, o2, rfl, s1, _⟩
 exact q H1 s1
theorem fv : aH ["rows", "number", "row"] ["rows"] (ai ca) := ⟨rfl, rfl, rfl, by decide +kernel, rfl, by decide +kernel, by decide +kernel⟩
theorem jh {f : Addr} {fd : FuncData} {k : Nat} (F : Fun K "hold_bound" "hold_bound" ca f fd) (T : Txt K mg) (Dare_bound : Def P w K mg base k "are_bound" ["names", "params"] ki) : bi P w K mg base CX0 (k + 1) f fd ["rows"] (et fun rs => ∀ r ∈ rs, r.Ok) := by
 have nd : (["rows", "number", "row"] : List Str).Nodup := fv.nd
 refine F.ok fv (fun vs H Q E h => ?_) (fun cdv A outer s H vs Q E hr h => ?_)
 ·obtain ⟨l, us, rs, rfl, _⟩ := h
  rfl
 obtain ⟨l, us, rs, rfl, hl, Ru, hC, l12, q⟩ := h
 refine ⟨_, (@ah _ _ _ (@cB _ _ _ _ _ _ _ _ PassesOwn.never rfl (@eZ _ _ _ _ _ _ _ _ rfl T.enumerate (@aa _ _ _ _ _ (@pv _ 0 _ _ (by rfl) (by trivial) (by decide) (by decide)) (@ab _) (by rfl)) (by rfl)) (@cW _ _ _ _ _ _ rfl (@aT _ _ _ _ _ (@aK _ _ (1) _ nd rfl (Or.inl rfl) (by trivial)) (@aT _ _ _ _ _ (@aK _ _ (2) _ nd rfl (Or.inl rfl) (by trivial)) (@cc _) (by rfl)) (by rfl)) (by rfl) (by rfl)) (@ah _ _ _ (@aN _ _ _ _ _ _ _ _ (@PW.pt _ _ _ (@fz _ _ _ _ _ _ _ (@ap _ _ _ _ _ _ _ _ aU (@ay _ _ _ _ _ _ _ aB (@pv _ 2 _ _ (by rfl) (by trivial) (by decide) (by decide)) (@ac _ _ _ _) (fun _ _ => rfl)) (@aD _ _ _ _) (aq _)) (@fU _ _ _ _ (@bM _ _ _ _ (@bF _ _ _ (@au _ _ _ _ _ _ _ _ _ _ Dare_bound hr rfl (@aa _ _ _ _ _ (@ay _ _ _ _ _ _ _ aB (@pv _ 2 _ _ (by rfl) (by trivial) (by decide) (by decide)) (@ac _ _ _ _) (fun _ _ => rfl)) (@aa _ _ _ _ _ (@ay _ _ _ _ _ _ _ aB (@pv _ 2 _ _ (by rfl) (by trivial) (by decide) (by decide)) (@ac _ _ _ _) (fun _ _ => rfl)) (@ab _) (by rfl)) (by rfl)) (by decide) (by rfl) (by rfl)) (by intro _; rfl)))))) (@ah _ _ _ (@hZ _ _)) (@av _))) (by intro _; rfl))), ?_⟩
 refine ⟨_, rfl, l, rfl, ⟨us, SqL.of hl⟩, eN (xs := us) (fun i σ H' => ∃ (o1 o2 : Option V), σ = [some (.ref l), o1, o2] /\ ao H H') ⟨_, _, rfl, ao.refl _⟩ (fun i σ H' _ ⟨_, _, _, s1⟩ => SqL.of (s1 _ _ hl)) ?T1 ?_⟩
 case T1 =>
  rintro i x σ H1 p hx ⟨o1, o2, rfl, s1⟩ hp
  obtain ⟨r, hr', Rx⟩ := dJ (f := Rw.dv) Ru hx
  have ok := hC r (List.mem_of_getElem? hr')
  have s2 := s1.trans (af hp (.tup [.int i, x]))
  refine ⟨p, _, rfl, SqT.of ad, rfl, _, _, rfl, _, _, rfl, rfl, ?_⟩
  generalize upd H1 p (.tup [.int i, x]) = H2 at s2 ⊢
  obtain ⟨a, rfl, inv⟩ := Rw.inv (Rx.mono s2)
  cases r with
  | ask e =>
   obtain ⟨u, ha⟩ := inv
   exact ⟨_, rfl, a, _, 0, .str "ask", rfl, rfl, SqT.of ha, ak (j := 0) rfl, rfl, _, rfl, bn (fun h => absurd (of_decide_eq_true h) pJ) (fun _ => aM ⟨_, _, rfl, s2⟩)⟩
  | df g ns ps e =>
   obtain ⟨b, c, u, ha, Rn, Rp⟩ := inv
   obtain ⟨_, _, n3, n4, p4, pk⟩ := ok
   refine ⟨_, rfl, a, _, 0, .str "def", rfl, rfl, SqT.of ha, ak (j := 0) rfl, rfl, _, rfl, bn (fun _ => ?_) (fun h => absurd (decide_eq_true rfl) h)⟩
   refine ⟨_, rfl, a, _, 2, .ref b, rfl, rfl, SqT.of ha, ak (j := 2) rfl, _, rfl, a, _, 3, .ref c, rfl, rfl, SqT.of ha, ak (j := 3) rfl, .ref b, .ref c, ns, ps, rfl, Rn, Rp, n4, p4, pk, fun H3 s3 => ⟨_, rfl, ?_⟩⟩
   rw [n3]
   exact aM ⟨_, _, rfl, s2.trans s3⟩
 rintro σ H1 ⟨o1, o2, rfl, s1⟩
 exact q H1 s1
def gq : Sp := fun vs H Q _ => ∃ (l : Addr) (us : List V) (rs : List Rw), vs = [.ref l] /\ H l = some (.lst us) /\ aj H (rs.map Rw.dv) us /\ kz rs /\ ∀ (H' : Hp) (r : Addr), ao H H' -> H r = none -> H' r = some (.lst us) -> Q (.ref r) H'
theorem iF : aH ["thing", "rows"] ["thing"] (ai dr) := ⟨rfl, rfl, rfl, by decide +kernel, rfl, by decide +kernel, by decide +kernel⟩
theorem nK {f : Addr} {fd : FuncData} {k : Nat} (F : Fun K "checked" "checked" dr f fd) (T : Txt K mg) (Dhold_rows : Def P w K mg base k "hold_rows" ["rows"] (et fun rs => ∀ r ∈ rs, dH r.dv = true /\ r.dv.small = true)) (Dhold_once : Def P w K mg base k "hold_once" ["rows"] (et fun rs => (∀ r ∈ rs, r.Ok) /\ (rs.flatMap Rw.f?).Nodup)) (Dhold_bound : Def P w K mg base k "hold_bound" ["rows"] (et fun rs => ∀ r ∈ rs, r.Ok)) : bi P w K mg base CX0 (k + 1) f fd ["thing"] gq := by
 have nd : (["thing", "rows"] : List Str).Nodup := iF.nd
 refine F.ok iF (fun vs H Q E h => ?_) (fun cdv A outer s H vs Q E hr h => ?_)
 ·obtain ⟨l, us, rs, rfl, _⟩ := h
  rfl
 obtain ⟨l, us, rs, rfl, hl, Ru, ok, q⟩ := h
 have lu : us.length = rs.length := by have := Ru.length; rwa [List.length_map] at this
 have l12 := ok.len
 have Rl : Rep H (.lst (rs.map Rw.dv)) (.ref l) := by rw [Rep]; exact ⟨l, us, rfl, hl, Ru⟩
 refine ⟨_, (@ae _ _ _ _ _ (@aN _ _ _ _ _ _ _ _ (@PW.pt _ _ _ (@cD _ _ _ _ _ _ _ (@bM _ _ _ _ (@bF _ _ _ (@ax _ _ _ _ _ _ _ _ _ bB rfl T.isinstance (by decide +kernel) (@aa _ _ _ _ _ (@pv _ 0 _ _ (by rfl) (by trivial) (by decide) (by decide)) (@aa _ _ _ _ _ (@bX _ _ (.ty "list") _ _ rfl T.list (by decide +kernel) rfl (by decide) (by decide)) (@ab _) (by rfl)) (by rfl)) (by decide) (by decide) (by rfl) (by rfl)) (by intro _; rfl))) (@cj _ _ _ _ (@ap _ _ _ _ _ _ _ _ gH (@ax _ _ _ _ _ _ _ _ _ aI rfl T.len (by decide +kernel) (@aa _ _ _ _ _ (@pv _ 0 _ _ (by rfl) (by trivial) (by decide) (by decide)) (@ab _) (by rfl)) (by decide) (by decide) (by rfl) (by rfl)) (T.g_MOST_ROWS rfl) (aq _))))) (@ah _ _ _ (@hZ _ _)) (@av _)) (@ae _ _ _ _ _ (@aJ _ _ (1) _ _ _ _ nd rfl (Or.inl rfl) (@dw _ _ _ _ _ _ _ _ _ gb rfl T.list (by decide +kernel) (@aa _ _ _ _ _ (@pv _ 0 _ _ (by rfl) (by trivial) (by decide) (by decide)) (@ab _) (by rfl)) (by decide) (by decide) (by rfl) (by rfl)) (by rfl) (by trivial)) (@ae _ _ _ _ _ (@bt _ _ _ _ (@au _ _ _ _ _ _ _ _ _ _ Dhold_rows hr rfl (@aa _ _ _ _ _ (@pv _ 1 _ _ (by rfl) (by trivial) (by decide) (by decide)) (@ab _) (by rfl)) (by decide) (by rfl) (by rfl)) (by rfl)) (@ae _ _ _ _ _ (@bt _ _ _ _ (@au _ _ _ _ _ _ _ _ _ _ Dhold_once hr rfl (@aa _ _ _ _ _ (@pv _ 1 _ _ (by rfl) (by trivial) (by decide) (by decide)) (@ab _) (by rfl)) (by decide) (by rfl) (by rfl)) (by rfl)) (@ae _ _ _ _ _ (@bt _ _ _ _ (@au _ _ _ _ _ _ _ _ _ _ Dhold_bound hr rfl (@aa _ _ _ _ _ (@pv _ 1 _ _ (by rfl) (by trivial) (by decide) (by decide)) (@ab _) (by rfl)) (by decide) (by rfl) (by rfl)) (by rfl)) (@ah _ _ _ (@ar _ _ _ _ (@pv _ 1 _ _ (by rfl) (by trivial) (by decide) (by decide))))))))), ?_⟩
 refine ⟨_, rfl, _, _, _, _, rfl, Rl.ty, lM K _, _, rfl, ?_⟩
 refine aM ⟨_, rfl, l, us, rfl, .inl (SqL.of hl), _, _, rfl, rfl, _, rfl, ?_⟩
 rw [decide_eq_false (by omega)]
 refine aM ⟨_, rfl, l, us, rfl, .inl (SqL.of hl), fun r hr' => ?_⟩
 have s1 := af hr' (.lst us)
 have h1 : upd H r (.lst us) r = some (.lst us) := ad
 generalize upd H r (.lst us) = H1 at s1 h1 ⊢
 refine ⟨_, rfl, r, us, rs, rfl, h1, Ru.mono s1, ok.row, l12, fun H2 s2 => ?_⟩
 refine ⟨_, rfl, r, us, rs, rfl, s2 _ _ h1, Ru.mono (s1.trans s2), ⟨ok.ok, ok.nd⟩, l12, fun H3 s3 => ?_⟩
 refine ⟨_, rfl, r, us, rs, rfl, s3 _ _ (s2 _ _ h1), Ru.mono (s1.trans (s2.trans s3)), ok.ok, l12, fun H4 s4 => ?_⟩
 exact ⟨_, rfl, q H4 r (s1.trans (s2.trans (s3.trans s4))) hr' (s4 _ _ (s3 _ _ (s2 _ _ h1)))⟩
end
abbrev bY : Stmt := top 54
def Xp (h c : Nat) (d : Dv) : Prop := d.small = true /\ ∀ m, h < m -> exN m d <= c
theorem sw {c : Nat} : ∀ {l : List Nat}, (∀ x ∈ l, x <= c) -> l.sum <= l.length * c
 | [], _ => by simp
 | x :: l, h => by
  have h1 := h x List.mem_cons_self
  have h2 := sw (l := l) fun y hy => h y (List.mem_cons_of_mem _ hy)
  rw [List.sum_cons, List.length_cons, Nat.succ_mul]; omega
theorem rN : ∀ p ∈ WT, (Dv.str p.1).small = true := by decide +kernel
theorem gX (x z : String) (ss : List So) (hp : ((Str.ofString x, Str.ofString z, ss) : Wd) ∈ WT) {ds : List Dv} (hok : okF ss ds = true) (hf : (decide (Str.ofString x ≠ "fold") || jy ds) = true) (hsm : ∀ d ∈ ds, d.small = true) {h c k : Nat} (hall : ∀ e ∈ bC ss ds, Xp h c e) (hk : (bC ss ds).length <= k) : Xp (h + 1) (1 + k * c) (.tup (.str x :: ds)) := by
 have hl := jT hok
 have hn : eG (.tup (.str x :: ds)) = true := by rw [show (Dv.str (Str.ofString x)) = .str ((Str.ofString x, Str.ofString z, ss) : Wd).1 from rfl, fS hp, hok, hf]; rfl
 have l9 : ss.length <= 9 := (by decide +kernel : ∀ p ∈ WT, p.2.2.length <= 9) _ hp
 refine ⟨bK (fun d hd => ?_) (by rw [List.length_cons]; omega), fun m hm => ?_⟩
 ·rcases List.mem_cons.mp hd with rfl | hd
  ·exact rN _ hp
  ·exact hsm d hd
 ·obtain ⟨m, rfl⟩ : ∃ j, m = j + 1 := ⟨m - 1, by omega⟩
  have e1 : exN (m + 1) (.tup (.str x :: ds)) = 1 + ((cN (.tup (.str x :: ds))).map (exN m)).sum := by show (if eG _ = true then _ else _) = _; rw [hn]; rfl
  rw [e1, show cN (.tup (.str x :: ds)) = bC ss ds from XB.parts_of hp ds]
  have h1 := sw (c := c) (l := (bC ss ds).map (exN m)) fun y hy => by
   obtain ⟨e, he, rfl⟩ := List.mem_map.mp hy
   exact (hall e he).2 m (by omega)
  rw [List.length_map] at h1
  have h2 := Nat.mul_le_mul_right c hk
  omega
theorem xL {h c : Nat} {d : Dv} (x : Xp h c d) (a : h <= 7) (b : c <= 40) : exD d = true := decide_eq_true (Nat.le_trans (x.2 8 (by omega)) b)
theorem eM {x : Str} (h : nmB x = true) : (Dv.str x).small = true := by
 simp only [Dv.small]; exact decide_eq_true (by have := (ke h).2; omega)
theorem wS {x y : Str} (h : zB x) (hy : (y.cps.toList.drop 1).all (fun c => decide (c ≠ 122)) = true) : y ≠ x := fun e => by
 subst e
 obtain ⟨j, hj, hz⟩ := h
 have hm : (122 : Nat) ∈ y.cps.toList.drop 1 := by
  refine List.mem_of_getElem? (i := j - 1) ?_
  rw [List.getElem?_drop, show 1 + (j - 1) = j by omega]
  exact hz
 have := List.all_eq_true.mp hy 122 hm
 simp at this
theorem noz : ∀ p ∈ WT, (p.1.cps.toList.drop 1).all (fun c => decide (c ≠ 122)) = true := by decide +kernel
theorem yw : ∀ x ∈ sU, (x.cps.toList.drop 1).all (fun c => decide (c ≠ 122)) = true := by decide +kernel
theorem xy {x : Str} (hn : nmB x = true) (hz : zB x) : fO (.str x) = true := by
 have h1 : eK x = false := by
  unfold eK
  rw [List.any_eq_false]
  intro p hp
  simpa using wS hz (noz p hp)
 have h2 : gP x = false := by
  unfold gP inV
  rw [List.any_eq_false]
  intro y hy
  obtain ⟨z, hz', rfl⟩ := List.mem_map.mp hy
  have := wS hz (yw z hz')
  simpa [eqV] using this
 show (nmB x && (!eK x && !gP x)) = true
 rw [hn, h1, h2]
 rfl
section
variable {σ : St} {H : Hp} {ds : List Dv} {ta ti : TE} {d : Dv}
theorem kC {i : Int} (h : ∀ H1 (Q : VK), Q (.int i) H1 -> ta σ H1 Q) : gZ ta σ H (.int i) := fun H1 _ Q q => h H1 Q (q H1 _ (ao.refl _) (by simp [Rep]))
theorem ib {K : PySem.W.Frag} {i : Nat} {r : Addr} {xs : List Str} {y : Str} {j : Int} (hv : σ[i]? = some (some (.ref r))) (hr : H r = some (.lst (xs.map V.str))) (hi : ∀ H1 (Q : VK), Q (.int j) H1 -> ti σ H1 Q) (h0 : 0 <= j) (hy : xs[j.toNat]? = some y) : gZ (tOp (tM K) (je i) ti) σ H (.str y) := fun H1 s Q q =>
 ⟨_, hv, hi H1 _ ⟨r, _, j, .str y, rfl, rfl, SqL.of (s _ _ hr), by
  have := ak (show (xs.map V.str)[j.toNat]? = some (V.str y) by rw [List.getElem?_map, hy]; rfl)
  rwa [show ((j.toNat : Nat) : Int) = j by omega] at this, q H1 _ (ao.refl _) (by simp only [Rep])⟩⟩
theorem qD {K : PySem.W.Frag} {ys : List Str} {y : Str} {j : Int} (h : gZ ta σ H (.lst (ys.map Dv.str))) (hi : ∀ H1 (Q : VK), Q (.int j) H1 -> ti σ H1 Q) (h0 : 0 <= j) (hy : ys[j.toNat]? = some y) : gZ (tOp (tM K) ta ti) σ H (.str y) := fun H1 s Q q =>
 h H1 s _ fun H2 v s2 R => hi H2 _ (by
  rw [Rep] at R
  obtain ⟨a, us, rfl, ha, ru⟩ := R
  have e : us = ys.map V.str := en ru
  subst e
  exact ⟨a, _, j, .str y, rfl, rfl, SqL.of ha, by
   have := ak (show (ys.map V.str)[j.toNat]? = some (V.str y) by rw [List.getElem?_map, hy]; rfl)
   rwa [show ((j.toNat : Nat) : Int) = j by omega] at this, q H2 _ s2 (by simp only [Rep])⟩)
theorem sE {α : Type} (k : Nat) (v : α) : (List.replicate k [v]).flatten = List.replicate k v := by
 induction k with
 | zero => rfl
 | succ k ih => rw [List.replicate_succ, List.flatten_cons, ih]; rfl
theorem mT {v : V} (R : Rep H d v) : ∀ k : Nat, aj H (List.replicate k d) (List.replicate k v)
 | 0 => by simp [aj]
 | k + 1 => by rw [List.replicate_succ, List.replicate_succ, aj]; exact ⟨v, _, rfl, R, mT R k⟩
theorem tf {K : PySem.W.Frag} {j : Int} (h : gZ ta σ H (.tup [d])) (hi : ∀ H1 (Q : VK), Q (.int j) H1 -> ti σ H1 Q) (h0 : 0 <= j) (h1 : j <= 1000) : gZ (tOp (vz K) ta ti) σ H (.tup (List.replicate j.toNat d)) := fun H1 s Q q =>
 h H1 s _ fun H2 v s2 R => hi H2 _ (by
  rw [Rep] at R
  obtain ⟨a, us, rfl, ha, ru⟩ := R
  simp only [aj] at ru
  obtain ⟨u, _, rfl, Ru, rfl⟩ := ru
  refine ⟨a, j, [u], rfl, rfl, SqT.of ha, by simp, h0, h1, by simp; omega, fun e => ?_, fun e p hp => ?_⟩
  ·subst e
   exact q H2 _ s2 (by rw [Rep]; exact ⟨a, [u], rfl, ha, by simp only [Int.toNat_one, List.replicate_one, aj]; exact ⟨u, _, rfl, Ru, rfl⟩⟩)
  ·have s3 := af hp (.tup (List.replicate j.toNat [u]).flatten)
   exact q _ _ (s2.trans s3) (by rw [Rep]; exact ⟨p, _, rfl, ad, (sE j.toNat u).symm ▸ mT (Ru.mono s3) _⟩))
end
def kL : Sp := fun vs H Q _ => ∃ (a r : Addr) (n : Nat) (xs : List Str), vs = [.ref a, .ref r] /\ Dr H a n /\ H r = some (.lst (xs.map V.str)) /\ r ≠ a /\ Nms xs /\ ∀ (H' : Hp) (v : V) (d : Dv), aS a H H' -> Dr H' a (n - 1 - 1) -> Rep H' d v -> exD d = true -> d.small = true -> L2.Pl 8 d -> Q v H'
theorem iY {n : Nat} {ds : List Dv} (h : ∀ d ∈ ds, L2.Pl n d) : L2.Pl (n + 1) (.tup ds) := .tup h
section
variable {P : Program} {w : World} {K : PySem.W.Frag} {mg : Str -> Option Value} {base : Heap}
theorem fu : aH ["_law_draws_here", "_law_names_here", "_law_cell", "_law_more", "_law_x", "_law_way"] ["_law_draws_here", "_law_names_here"] (ai bY) := ⟨rfl, rfl, rfl, by decide +kernel, rfl, by decide +kernel, by decide +kernel⟩
theorem iX {f : Addr} {fd : FuncData} {k : Nat} (F : Fun K "_law_expression" "_law_expression" bY f fd) (T : Txt K mg) (D_law_next : Def P w K mg base k "_law_next" ["_law_draws_here"] fB) : bi P w K mg base CX0 (k + 1) f fd ["_law_draws_here", "_law_names_here"] kL := by
 have nd : (["_law_draws_here", "_law_names_here", "_law_cell", "_law_more", "_law_x", "_law_way"] : List Str).Nodup := fu.nd
 refine F.ok fu (fun vs H Q E h => ?_) (fun cdv A outer s H vs Q E hr h => ?_)
 ·obtain ⟨a, r, n, xs, rfl, _⟩ := h
  rfl
 obtain ⟨a, r, n, xs, rfl, hD, hR, ra, nms, q⟩ := h
 have p12 : uS 10 12 := ⟨by decide, by decide, by decide⟩
 have lx := nms.len
 have pick : ∀ j : Int, 0 <= j -> j < 5 -> ∃ y, xs[j.toNat]? = some y /\ y ∈ xs := fun j h0 h1 => by
  have hlt : j.toNat < xs.length := by omega
  exact ⟨xs[j.toNat], List.getElem?_eq_getElem hlt, List.getElem_mem hlt⟩
 refine ⟨_, (@ae _ _ _ _ _ (@aJ _ _ (2) _ _ _ _ nd rfl (Or.inl rfl) (@au _ _ _ _ _ _ _ _ _ _ D_law_next hr rfl (@aa _ _ _ _ _ (@pv _ 0 _ _ (by rfl) (by trivial) (by decide) (by decide)) (@ab _) (by rfl)) (by decide) (by rfl) (by rfl)) (by rfl) (by trivial)) (@ae _ _ _ _ _ (@aJ _ _ (3) _ _ _ _ nd rfl (Or.inl rfl) (@au _ _ _ _ _ _ _ _ _ _ D_law_next hr rfl (@aa _ _ _ _ _ (@pv _ 0 _ _ (by rfl) (by trivial) (by decide) (by decide)) (@ab _) (by rfl)) (by decide) (by rfl) (by rfl)) (by rfl) (by trivial)) (@ae _ _ _ _ _ (@aJ _ _ (4) _ _ _ _ nd rfl (Or.inl rfl) (@aX _ _ _ _ _ (@aa _ _ _ _ _ (@aD _ _ _ _) (@aa _ _ _ _ _ (@ay _ _ _ _ _ _ _ br (@pv _ 1 _ _ (by rfl) (by trivial) (by decide) (by decide)) (@aA _ _ _ _ _ _ _ _ aW (@aA _ _ _ _ _ _ _ _ cy (@pv _ 2 _ _ (by rfl) (by trivial) (by decide) (by decide)) (@ac _ _ _ _)) (@ac _ _ _ _)) (fun _ _ => rfl)) (@ab _) (by rfl)) (by rfl))) (by rfl) (by trivial)) (@ae _ _ _ _ _ (@aJ _ _ (5) _ _ _ _ nd rfl (Or.inl rfl) (@aA _ _ _ _ _ _ _ _ aW (@pv _ 2 _ _ (by rfl) (by trivial) (by decide) (by decide)) (@ac _ _ _ _)) (by rfl) (by trivial)) (@ae _ _ _ _ _ (@aN _ _ _ _ _ _ _ _ (@ap _ _ _ _ _ _ _ _ aU (@pv _ 5 _ _ (by rfl) (by trivial) (by decide) (by decide)) (@ac _ _ _ _) (aq _)) (@ah _ _ _ (@ar _ _ _ _ (@pv _ 4 _ _ (by rfl) (by trivial) (by decide) (by decide)))) (@av _)) (@ae _ _ _ _ _ (@aN _ _ _ _ _ _ _ _ (@ap _ _ _ _ _ _ _ _ aU (@pv _ 5 _ _ (by rfl) (by trivial) (by decide) (by decide)) (@ac _ _ _ _) (aq _)) (@ah _ _ _ (@ar _ _ _ _ (@aX _ _ _ _ _ (@aa _ _ _ _ _ (@aD _ _ _ _) (@aa _ _ _ _ _ (@aA _ _ _ _ _ _ _ _ aW (@pv _ 3 _ _ (by rfl) (by trivial) (by decide) (by decide)) (@aA _ _ _ _ _ _ _ _ jX (@ac _ _ _ _) (@ac _ _ _ _))) (@ab _) (by rfl)) (by rfl))))) (@av _)) (@ae _ _ _ _ _ (@aN _ _ _ _ _ _ _ _ (@ap _ _ _ _ _ _ _ _ aU (@pv _ 5 _ _ (by rfl) (by trivial) (by decide) (by decide)) (@ac _ _ _ _) (aq _)) (@ah _ _ _ (@ar _ _ _ _ (@aX _ _ _ _ _ (@aa _ _ _ _ _ (@aD _ _ _ _) (@aa _ _ _ _ _ (@aX _ _ _ _ _ (@aa _ _ _ _ _ (@aA _ _ _ _ _ _ _ _ aW (@pv _ 3 _ _ (by rfl) (by trivial) (by decide) (by decide)) (@ac _ _ _ _)) (@aa _ _ _ _ _ (@aX _ _ _ _ _ (@aa _ _ _ _ _ (@aX _ _ _ _ _ (@aa _ _ _ _ _ (@ay _ _ _ _ _ _ _ br (@pv _ 1 _ _ (by rfl) (by trivial) (by decide) (by decide)) (@aA _ _ _ _ _ _ _ _ aW (@aA _ _ _ _ _ _ _ _ cy (@pv _ 3 _ _ (by rfl) (by trivial) (by decide) (by decide)) (@ac _ _ _ _)) (@ac _ _ _ _)) (fun _ _ => rfl)) (@aa _ _ _ _ _ (@aA _ _ _ _ _ _ _ _ cV (@ac _ _ _ _) (@aA _ _ _ _ _ _ _ _ aW (@aA _ _ _ _ _ _ _ _ cy (@pv _ 3 _ _ (by rfl) (by trivial) (by decide) (by decide)) (@ac _ _ _ _)) (@ac _ _ _ _))) (@ab _) (by rfl)) (by rfl))) (@ab _) (by rfl))) (@ab _) (by rfl)) (by rfl))) (@ab _) (by rfl)) (by rfl))))) (@av _)) (@ae _ _ _ _ _ (@aN _ _ _ _ _ _ _ _ (@ap _ _ _ _ _ _ _ _ aU (@pv _ 5 _ _ (by rfl) (by trivial) (by decide) (by decide)) (@ac _ _ _ _) (aq _)) (@ah _ _ _ (@ar _ _ _ _ (@aX _ _ _ _ _ (@aa _ _ _ _ _ (@aD _ _ _ _) (@aa _ _ _ _ _ (@ay _ _ _ _ _ _ _ br (@bp _ _ _ _ (@aa _ _ _ _ _ (@aD _ _ _ _) (@aa _ _ _ _ _ (@aD _ _ _ _) (@ab _) (by rfl)) (by rfl))) (@aA _ _ _ _ _ _ _ _ aW (@pv _ 3 _ _ (by rfl) (by trivial) (by decide) (by decide)) (@ac _ _ _ _)) (fun _ _ => rfl)) (@aa _ _ _ _ _ (@pv _ 4 _ _ (by rfl) (by trivial) (by decide) (by decide)) (@aa _ _ _ _ _ (@pv _ 4 _ _ (by rfl) (by trivial) (by decide) (by decide)) (@ab _) (by rfl)) (by rfl)) (by rfl)) (by rfl))))) (@av _)) (@ae _ _ _ _ _ (@aN _ _ _ _ _ _ _ _ (@ap _ _ _ _ _ _ _ _ aU (@pv _ 5 _ _ (by rfl) (by trivial) (by decide) (by decide)) (@ac _ _ _ _) (aq _)) (@ah _ _ _ (@ar _ _ _ _ (@aX _ _ _ _ _ (@aa _ _ _ _ _ (@aD _ _ _ _) (@aa _ _ _ _ _ (@ay _ _ _ _ _ _ _ br (@pv _ 1 _ _ (by rfl) (by trivial) (by decide) (by decide)) (@aA _ _ _ _ _ _ _ _ aW (@pv _ 3 _ _ (by rfl) (by trivial) (by decide) (by decide)) (@ac _ _ _ _)) (fun _ _ => rfl)) (@aa _ _ _ _ _ (@aA _ _ _ _ _ _ _ _ uA (@aX _ _ _ _ _ (@aa _ _ _ _ _ (@pv _ 4 _ _ (by rfl) (by trivial) (by decide) (by decide)) (@ab _) (by rfl))) (@aA _ _ _ _ _ _ _ _ aW (@aA _ _ _ _ _ _ _ _ cy (@pv _ 3 _ _ (by rfl) (by trivial) (by decide) (by decide)) (@ac _ _ _ _)) (@ac _ _ _ _))) (@ab _) (by rfl)) (by rfl)) (by rfl))))) (@av _)) (@ae _ _ _ _ _ (@aN _ _ _ _ _ _ _ _ (@ap _ _ _ _ _ _ _ _ aU (@pv _ 5 _ _ (by rfl) (by trivial) (by decide) (by decide)) (@ac _ _ _ _) (aq _)) (@ah _ _ _ (@ar _ _ _ _ (@aX _ _ _ _ _ (@aa _ _ _ _ _ (@aD _ _ _ _) (@aa _ _ _ _ _ (@ay _ _ _ _ _ _ _ br (@pv _ 1 _ _ (by rfl) (by trivial) (by decide) (by decide)) (@aA _ _ _ _ _ _ _ _ aW (@pv _ 3 _ _ (by rfl) (by trivial) (by decide) (by decide)) (@ac _ _ _ _)) (fun _ _ => rfl)) (@aa _ _ _ _ _ (@aX _ _ _ _ _ (@aa _ _ _ _ _ (@aA _ _ _ _ _ _ _ _ aW (@aA _ _ _ _ _ _ _ _ cy (@pv _ 3 _ _ (by rfl) (by trivial) (by decide) (by decide)) (@ac _ _ _ _)) (@ac _ _ _ _)) (@aa _ _ _ _ _ (@aX _ _ _ _ _ (@ab _)) (@ab _) (by rfl)) (by rfl))) (@aa _ _ _ _ _ (@aX _ _ _ _ _ (@aa _ _ _ _ _ (@aD _ _ _ _) (@aa _ _ _ _ _ (@pv _ 4 _ _ (by rfl) (by trivial) (by decide) (by decide)) (@aa _ _ _ _ _ (@pv _ 4 _ _ (by rfl) (by trivial) (by decide) (by decide)) (@ab _) (by rfl)) (by rfl)) (by rfl))) (@ab _) (by rfl)) (by rfl)) (by rfl)) (by rfl))))) (@av _)) (@ah _ _ _ (@ar _ _ _ _ (@aX _ _ _ _ _ (@aa _ _ _ _ _ (@aD _ _ _ _) (@aa _ _ _ _ _ (@aX _ _ _ _ _ (@aa _ _ _ _ _ (@aD _ _ _ _) (@ab _) (by rfl))) (@ab _) (by rfl)) (by rfl))))))))))))))), ?_⟩
 refine ⟨_, rfl, a, n, rfl, hD, fun H1 c s1 D1 c0 c1 => ?_⟩
 refine ⟨_, rfl, a, n - 1, rfl, D1, fun H2 m s2 D2 m0 m1 => ?_⟩
 have r2 := (s1.trans s2) _ _ ra hR
 obtain ⟨b0, b1⟩ := aY (a := c / 7) 5 (by decide)
 obtain ⟨y, hy, my⟩ := pick _ b0 b1
 have ny := nms.nm y my
 have q2 : ∀ (H' : Hp) (v : V) (d : Dv), ao H2 H' -> Rep H' d v -> exD d = true -> d.small = true -> L2.Pl 8 d -> Q v H' := fun H' v d s R e sm pl => q H' v d ((s1.trans s2).trans (ao.b a s)) (D2.m s) R e sm pl
 refine rj (d := .tup [.str "name", .str y]) (bv (aw bS (aw (ib (j := c / 7 % 5) rfl r2 (fun H1 Q q => ⟨_, rfl, _, _, rfl, rfl, ⟨by decide, by decide⟩, _, _, rfl, rfl, (by show (0 : Int) < 5; decide), q⟩) b0 hy) bf)) (Nat.le_of_ble_eq_true rfl)) fun H3 vx s3 Rx => ?_
 have xx : Xp 1 1 (.tup [.str "name", .str y]) := gX "name" "x" [.x] (by decide +kernel) (h := 0) (c := 0) (k := 0) (by show (nmB y && true) = true; rw [ny]; rfl) rfl (fun d hd => by rw [List.mem_singleton.mp hd]; exact eM ny) (fun e he => by simp [bC, XB.ptD] at he) (by simp [bC, XB.ptD])
 have px : L2.Pl 4 (.tup [.str "name", .str y]) := iY fun d hd => by
  rcases List.mem_cons.mp hd with rfl | hd
  ·exact .str
  ·rw [List.mem_singleton.mp hd]; exact .str
 have sx := xx.1
 have q3 : ∀ (H' : Hp) (v : V) (d : Dv) {h c : Nat}, ao H3 H' -> Rep H' d v -> Xp h c d -> h <= 7 -> c <= 40 -> L2.Pl 8 d -> Q v H' := fun H' v d h c s R x a b pl => q2 H' v d (s3.trans s) R (xL x a b) x.1 pl
 have r3 := s3 _ _ r2
 refine ⟨_, rfl, _, _, rfl, rfl, (by show (0 : Int) < 7; decide), ?_⟩
 refine ⟨_, rfl, rfl, _, rfl, bn (fun _ => ?_) (fun _ => ?_)⟩
 ·exact ⟨_, rfl, q3 H3 vx _ (ao.refl _) Rx xx (by decide) (by decide) (px.up (by decide))⟩
 refine ⟨_, rfl, rfl, _, rfl, bn (fun _ => ?_) (fun _ => ?_)⟩
 ·obtain ⟨d0, d1⟩ := aY (a := m) (10 ^ (12 : Int).toNat) (by decide)
  refine bv (ds := [.str "number", .int (m % 10 ^ (12 : Int).toNat)]) (aw bS (aw (kC fun H1 Q q => ⟨_, rfl, _, _, rfl, rfl, p12, _, _, rfl, rfl, (by show (0 : Int) < 10 ^ (12 : Int).toNat; decide), q⟩) bf)) (Nat.le_of_ble_eq_true rfl) H3 (ao.refl _) _ fun H4 v s4 R => ?_
  refine q3 H4 v _ s4 R (gX "number" "n" [.n] (by decide +kernel) (h := 0) (c := 0) (k := 0) ?_ rfl (fun d hd => by rw [List.mem_singleton.mp hd]; rfl) (fun e he => by simp [bC, XB.ptD] at he) (by simp [bC, XB.ptD])) (by decide) (by decide) ?_
  ·show ((decide (0 <= m % 10 ^ (12 : Int).toNat) && decide (m % 10 ^ (12 : Int).toNat < 1000000000000)) && true) = true
   rw [decide_eq_true d0, decide_eq_true (show m % 10 ^ (12 : Int).toNat < 1000000000000 from d1)]; rfl
  ·exact (iY (n := 0) fun d hd => by
    rcases List.mem_cons.mp hd with rfl | hd
    ·exact .str
    ·rw [List.mem_singleton.mp hd]; exact .int).up (by decide)
 refine ⟨_, rfl, rfl, _, rfl, bn (fun _ => ?_) (fun _ => ?_)⟩
 ·obtain ⟨e0, e1⟩ := aY (a := m) 100 (by decide)
  obtain ⟨f0, f1⟩ := aY (a := m / 100) 5 (by decide)
  obtain ⟨g0, g1⟩ := aY (a := m / 500) 99 (by decide)
  obtain ⟨z, hz, mz⟩ := pick _ f0 f1
  have nz := nms.nm z mz
  have sl : SL (m % 100) [(z, 1 + m / 500 % 99)] := oC e0 (by omega) ⟨List.pairwise_singleton _ _, fun p hp => by rw [List.mem_singleton.mp hp]; show 1 <= 1 + m / 500 % 99; omega⟩ (by show 1 <= 900; decide) fun p hp => by rw [List.mem_singleton.mp hp]; exact ⟨nz, by show 1 + m / 500 % 99 <= 99; omega⟩
  refine bv (ds := [.str "length", bU (m % 100) [(z, 1 + m / 500 % 99)]]) (aw bS (aw (bv (aw (kC fun H1 Q q => ⟨_, rfl, _, _, rfl, rfl, (by show (0 : Int) < 100; decide), q⟩) (aw (bv (aw (bv (aw (ib (j := m / 100 % 5) rfl r3 (fun H1 Q q => ⟨_, rfl, _, _, rfl, rfl, ⟨by decide, by decide⟩, _, _, rfl, rfl, (by show (0 : Int) < 5; decide), q⟩) f0 hz) (aw (kC fun H1 Q q => ⟨_, rfl, _, _, rfl, rfl, ⟨by decide, by decide⟩, _, _, rfl, rfl, (by show (0 : Int) < 99; decide), _, _, rfl, rfl, q⟩) bf)) (Nat.le_of_ble_eq_true rfl)) bf) (Nat.le_of_ble_eq_true rfl)) bf)) (Nat.le_of_ble_eq_true rfl)) bf)) (Nat.le_of_ble_eq_true rfl) H3 (ao.refl _) _ fun H4 v s4 R => ?_
  refine q3 H4 v _ s4 R (gX "length" "l" [.l] (by decide +kernel) (h := 0) (c := 0) (k := 0) (by show (slD (bU _ _) && true) = true; rw [sl.1]; rfl) rfl (fun d hd => by rw [List.mem_singleton.mp hd]; exact sl.2) (fun e he => by simp [bC, XB.ptD] at he) (by simp [bC, XB.ptD])) (by decide) (by decide) ?_
  exact (iY (n := 3) fun d hd => by
    rcases List.mem_cons.mp hd with rfl | hd
    ·exact .str
    ·rw [List.mem_singleton.mp hd]; exact gB _ _).up (by decide)
 refine ⟨_, rfl, rfl, _, rfl, bn (fun _ => ?_) (fun _ => ?_)⟩
 ·obtain ⟨f0, f1⟩ := aY (a := m) 2 (by decide)
  obtain ⟨z, hz, mz⟩ : ∃ z : Str, [Str.ofString "plus", Str.ofString "less"][(m % 2).toNat]? = some z /\ gP z = true /\ (Dv.str z).small = true := by
   rcases (by omega : m % 2 = 0 \/ m % 2 = 1) with e | e
   ·rw [e]; exact ⟨Str.ofString "plus", rfl, by decide +kernel, by decide +kernel⟩
   ·rw [e]; exact ⟨Str.ofString "less", rfl, by decide +kernel, by decide +kernel⟩
  refine bv (ds := [.str "reckon", .str z, .tup [.str "name", .str y], .tup [.str "name", .str y]]) (aw bS (aw (qD (ys := [Str.ofString "plus", Str.ofString "less"]) (rk (aw bS (aw bS bf)) (Nat.le_of_ble_eq_true rfl)) (fun H1 Q q => ⟨_, rfl, _, _, rfl, rfl, (by show (0 : Int) < 2; decide), q⟩) f0 hz) (aw (eU rfl Rx) (aw (eU rfl Rx) bf)))) (Nat.le_of_ble_eq_true rfl) H3 (ao.refl _) _ fun H4 v s4 R => ?_
  refine q3 H4 v _ s4 R (gX "reckon" "wee" [.w, .e, .e] (by decide +kernel) (h := 1) (c := 1) (k := 2) (by show (gP z && (true && (true && true))) = true; rw [mz.1]; rfl) rfl (fun d hd => ?_) (fun e he => ?_) (by simp [bC, XB.ptD])) (by decide) (by decide) ?_
  ·rcases List.mem_cons.mp hd with rfl | hd
   ·exact mz.2
   rcases List.mem_cons.mp hd with rfl | hd
   ·exact sx
   ·rw [List.mem_singleton.mp hd]; exact sx
  ·have : e = .tup [.str "name", .str y] := by simpa [bC, XB.ptD] using he
   rw [this]; exact xx
  ·exact (iY (n := 4) fun d hd => by
    rcases List.mem_cons.mp hd with rfl | hd
    ·exact .str
    rcases List.mem_cons.mp hd with rfl | hd
    ·exact .str
    rcases List.mem_cons.mp hd with rfl | hd
    ·exact px
    ·rw [List.mem_singleton.mp hd]; exact px).up (by decide)
 refine ⟨_, rfl, rfl, _, rfl, bn (fun _ => ?_) (fun _ => ?_)⟩
 ·obtain ⟨f0, f1⟩ := aY (a := m) 5 (by decide)
  obtain ⟨g0, g1⟩ := aY (a := m / 5) 5 (by decide)
  obtain ⟨z, hz, mz⟩ := pick _ f0 f1
  have nz := nms.nm z mz
  have lr : (List.replicate (m / 5 % 5).toNat (Dv.tup [.str "name", .str y])).length <= 4 := by rw [List.length_replicate]; omega
  refine bv (ds := [.str "call", .str z, .tup (List.replicate (m / 5 % 5).toNat (.tup [.str "name", .str y]))]) (aw bS (aw (ib (j := m % 5) rfl r3 (fun H1 Q q => ⟨_, rfl, _, _, rfl, rfl, (by show (0 : Int) < 5; decide), q⟩) f0 hz) (aw (tf (j := m / 5 % 5) (bv (aw (eU rfl Rx) bf) (Nat.le_of_ble_eq_true rfl)) (fun H1 Q q => ⟨_, rfl, _, _, rfl, rfl, ⟨by decide, by decide⟩, _, _, rfl, rfl, (by show (0 : Int) < 5; decide), q⟩) g0 (by omega)) bf))) (Nat.le_of_ble_eq_true rfl) H3 (ao.refl _) _ fun H4 v s4 R => ?_
  refine q3 H4 v _ s4 R (gX "call" "fa" [.f, .a] (by decide +kernel) (h := 1) (c := 1) (k := 4) ?_ rfl (fun d hd => ?_) (fun e he => ?_) ?_) (by decide) (by decide) ?_
  ·show (fO (.str z) && ((decide ((0 : Int) <= ((List.replicate (m / 5 % 5).toNat (Dv.tup [.str "name", .str y])).length : Int)) && decide (((List.replicate (m / 5 % 5).toNat (Dv.tup [.str "name", .str y])).length : Int) <= 4)) && true)) = true
   rw [xy nz (nms.z z mz), decide_eq_true (by omega), decide_eq_true (by omega)]; rfl
  ·rcases List.mem_cons.mp hd with rfl | hd
   ·exact eM nz
   ·rw [List.mem_singleton.mp hd]; exact bK (fun d hd => by rw [List.eq_of_mem_replicate hd]; exact sx) (by omega)
  ·have : e ∈ List.replicate (m / 5 % 5).toNat (Dv.tup [.str "name", .str y]) := by simpa [bC, XB.ptD, oW] using he
   rw [List.eq_of_mem_replicate this]; exact xx
  ·show (XB.ptD .f (.str z) ++ (List.replicate (m / 5 % 5).toNat (Dv.tup [.str "name", .str y]) ++ [])).length <= 4
   rw [List.length_append, List.length_append]; simp only [XB.ptD, List.length_nil]; omega
  ·exact (iY (n := 5) fun d hd => by
    rcases List.mem_cons.mp hd with rfl | hd
    ·exact .str
    rcases List.mem_cons.mp hd with rfl | hd
    ·exact .str
    ·rw [List.mem_singleton.mp hd]; exact iY fun d hd => by rw [List.eq_of_mem_replicate hd]; exact px).up (by decide)
 refine ⟨_, rfl, rfl, _, rfl, bn (fun _ => ?_) (fun _ => ?_)⟩
 ·obtain ⟨f0, f1⟩ := aY (a := m) 5 (by decide)
  obtain ⟨g0, g1⟩ := aY (a := m / 5) 100 (by decide)
  obtain ⟨z, hz, mz⟩ := pick _ f0 f1
  have nz := nms.nm z mz
  have sl : SL (m / 5 % 100) [] := oC g0 (by omega) ⟨.nil, by simp⟩ (by show 0 <= 900; decide) (by simp)
  have xp : Xp 2 3 (.tup [.str "pair", .tup [.str "name", .str y], .tup [.str "name", .str y]]) := gX "pair" "ee" [.e, .e] (by decide +kernel) (h := 1) (c := 1) (k := 2) rfl rfl (fun d hd => by
    rcases List.mem_cons.mp hd with rfl | hd
    ·exact sx
    ·rw [List.mem_singleton.mp hd]; exact sx) (fun e he => by
    have : e = .tup [.str "name", .str y] := by simpa [bC, XB.ptD] using he
    rw [this]; exact xx) (by simp [bC, XB.ptD])
  refine bv (ds := [.str "loop", .str z, bU (m / 5 % 100) [], .tup [.str "pair", .tup [.str "name", .str y], .tup [.str "name", .str y]]]) (aw bS (aw (ib (j := m % 5) rfl r3 (fun H1 Q q => ⟨_, rfl, _, _, rfl, rfl, (by show (0 : Int) < 5; decide), q⟩) f0 hz) (aw (bv (aw (kC fun H1 Q q => ⟨_, rfl, _, _, rfl, rfl, ⟨by decide, by decide⟩, _, _, rfl, rfl, (by show (0 : Int) < 100; decide), q⟩) (aw (bv bf (Nat.le_of_ble_eq_true rfl)) bf)) (Nat.le_of_ble_eq_true rfl)) (aw (bv (aw bS (aw (eU rfl Rx) (aw (eU rfl Rx) bf))) (Nat.le_of_ble_eq_true rfl)) bf)))) (Nat.le_of_ble_eq_true rfl) H3 (ao.refl _) _ fun H4 v s4 R => ?_
  refine q3 H4 v _ s4 R (gX "loop" "xle" [.x, .l, .e] (by decide +kernel) (h := 2) (c := 3) (k := 1) (by show (nmB z && (slD (bU _ _) && (true && true))) = true; rw [nz, sl.1]; rfl) rfl (fun d hd => ?_) (fun e he => ?_) (by simp [bC, XB.ptD])) (by decide) (by decide) ?_
  ·rcases List.mem_cons.mp hd with rfl | hd
   ·exact eM nz
   rcases List.mem_cons.mp hd with rfl | hd
   ·exact sl.2
   ·rw [List.mem_singleton.mp hd]; exact xp.1
  ·have : e = .tup [.str "pair", .tup [.str "name", .str y], .tup [.str "name", .str y]] := by simpa [bC, XB.ptD] using he
   rw [this]; exact xp
  ·exact (iY (n := 5) fun d hd => by
    rcases List.mem_cons.mp hd with rfl | hd
    ·exact .str
    rcases List.mem_cons.mp hd with rfl | hd
    ·exact .str
    rcases List.mem_cons.mp hd with rfl | hd
    ·exact (gB _ _).up (by decide)
    ·rw [List.mem_singleton.mp hd]; exact iY fun d hd => by
      rcases List.mem_cons.mp hd with rfl | hd
      ·exact .str
      rcases List.mem_cons.mp hd with rfl | hd
      ·exact px
      ·rw [List.mem_singleton.mp hd]; exact px).up (by decide)
 refine bv (ds := [.str "none", .tup [.str "whole"]]) (aw bS (aw (bv (aw bS bf) (Nat.le_of_ble_eq_true rfl)) bf)) (Nat.le_of_ble_eq_true rfl) H3 (ao.refl _) _ fun H4 v s4 R => ?_
 refine q3 H4 v _ s4 R (gX "none" "k" [.k] (by decide +kernel) (h := 0) (c := 0) (k := 0) ?_ rfl (fun d hd => by rw [List.mem_singleton.mp hd]; decide +kernel) (fun e he => by simp [bC, XB.ptD] at he) (by simp [bC, XB.ptD])) (by decide) (by decide) ?_
 ·show (decide (aR (.tup [.str "whole"]) <= 12) && true) = true
  rw [xH, if_pos rfl]; rfl
 ·exact (iY (n := 1) fun d hd => by
    rcases List.mem_cons.mp hd with rfl | hd
    ·exact .str
    ·rw [List.mem_singleton.mp hd]; exact iY fun d hd => by rw [List.mem_singleton.mp hd]; exact .str).up (by decide)
end
abbrev jz : Stmt := top 55
structure Sm (ns : List Str) (x : Str) (c : Int) (ps : List Pr) : Prop where
 c0 : 0 <= c
 c1 : c <= 99
 can : mr ps
 len : ps.length <= 5
 all : ∀ p ∈ ps, p.2 <= 99 /\ (p.1 ∈ ns \/ (x ≠ "" /\ p = (x, 1)))
 new : x ≠ "" -> (x, (1 : Int)) ∈ ps
def sH : Sp := fun vs H Q _ => ∃ (a t : Addr) (n : Nat) (ns : List Str) (x : Str), vs = [.ref a, .ref t, .str x] /\ Dr H a n /\ H t = some (.lst (ns.map V.str)) /\ t ≠ a /\ ns.length <= 4 /\ x ∉ ns /\
 ∀ (H' : Hp) (v : V) (c : Int) (ps : List Pr), aS a H H' -> Dr H' a (n - 1) -> Rep H' (bU c ps) v -> Sm ns x c ps -> Q v H'
theorem vO {i : Nat} (h : i < 4) : ∃ n : Int, atI ([V.int 16, V.int 1584, V.int 156816, V.int 15524784] : List V) (i : Int) = some (.int n) /\ 0 < n /\ n < 10 ^ 9 := by
 rcases (by omega : i = 0 \/ i = 1 \/ i = 2 \/ i = 3) with rfl | rfl | rfl | rfl
 ·exact ⟨16, ak (j := 0) rfl, by decide⟩
 ·exact ⟨1584, ak (j := 1) rfl, by decide⟩
 ·exact ⟨156816, ak (j := 2) rfl, by decide⟩
 ·exact ⟨15524784, ak (j := 3) rfl, by decide⟩
section
variable {P : Program} {w : World} {K : PySem.W.Frag} {mg : Str -> Option Value} {base : Heap}
theorem tG : aH ["_law_draws_here", "_law_told", "_law_new", "_law_cell", "_law_parts", "_law_k", "_law_name"] ["_law_draws_here", "_law_told", "_law_new"] (ai jz) := ⟨rfl, rfl, rfl, by decide +kernel, rfl, by decide +kernel, by decide +kernel⟩
theorem ww {f : Addr} {fd : FuncData} {k : Nat} (F : Fun K "_law_sum" "_law_sum" jz f fd) (T : Txt K mg) (D_law_next : Def P w K mg base k "_law_next" ["_law_draws_here"] fB) : bi P w K mg base CX0 (k + 1) f fd ["_law_draws_here", "_law_told", "_law_new"] sH := by
 have nd : (["_law_draws_here", "_law_told", "_law_new", "_law_cell", "_law_parts", "_law_k", "_law_name"] : List Str).Nodup := tG.nd
 refine F.ok tG (fun vs H Q E h => ?_) (fun cdv A outer s H vs Q E hr h => ?_)
 ·obtain ⟨a, t, n, ns, x, rfl, _⟩ := h
  rfl
 obtain ⟨a, t, n, ns, x, rfl, hD, hT, ta, l4, xn, q⟩ := h
 have hu := mW hr
 refine ⟨_, (@ae _ _ _ _ _ (@aJ _ _ (3) _ _ _ _ nd rfl (Or.inl rfl) (@au _ _ _ _ _ _ _ _ _ _ D_law_next hr rfl (@aa _ _ _ _ _ (@pv _ 0 _ _ (by rfl) (by trivial) (by decide) (by decide)) (@ab _) (by rfl)) (by decide) (by rfl) (by rfl)) (by rfl) (by trivial)) (@ae _ _ _ _ _ (@aJ _ _ (4) _ _ _ _ nd rfl (Or.inl rfl) (@iG _ _) (by rfl) (by trivial)) (@ae _ _ _ _ _ (@cB _ _ _ _ _ _ _ _ PassesOwn.never rfl (@eZ _ _ _ _ _ _ _ _ rfl T.enumerate (@aa _ _ _ _ _ (@pv _ 1 _ _ (by rfl) (by trivial) (by decide) (by decide)) (@ab _) (by rfl)) (by rfl)) (@cW _ _ _ _ _ _ rfl (@aT _ _ _ _ _ (@aK _ _ (5) _ nd rfl (Or.inl rfl) (by trivial)) (@aT _ _ _ _ _ (@aK _ _ (6) _ nd rfl (Or.inl rfl) (by trivial)) (@cc _) (by rfl)) (by rfl)) (by rfl) (by rfl)) (@ah _ _ _ (@aN _ _ _ _ _ _ _ _ (@ap _ _ _ _ _ _ _ _ aU (@aA _ _ _ _ _ _ _ _ vF (@aA _ _ _ _ _ _ _ _ vZ (@pv _ 3 _ _ (by rfl) (by trivial) (by decide) (by decide)) (@pv _ 5 _ _ (by rfl) (by trivial) (by decide) (by decide))) (@ac _ _ _ _)) (@ac _ _ _ _) (aq _)) (@ah _ _ _ (@ic _ _ _ _ _ _ _ _ _ hu (@pv _ 4 _ _ (by rfl) (by trivial) (by decide) (by decide)) (@pv _ 6 _ _ (by rfl) (by trivial) (by decide) (by decide)) (@aA _ _ _ _ _ _ _ _ cV (@ac _ _ _ _) (@aA _ _ _ _ _ _ _ _ aW (@aA _ _ _ _ _ _ _ _ dC (@pv _ 3 _ _ (by rfl) (by trivial) (by decide) (by decide)) (@ay _ _ _ _ _ _ _ br (@bp _ _ _ _ (@aa _ _ _ _ _ (@ac _ _ _ _) (@aa _ _ _ _ _ (@ac _ _ _ _) (@aa _ _ _ _ _ (@ac _ _ _ _) (@aa _ _ _ _ _ (@ac _ _ _ _) (@ab _) (by rfl)) (by rfl)) (by rfl)) (by rfl))) (@pv _ 5 _ _ (by rfl) (by trivial) (by decide) (by decide)) (fun _ _ => rfl))) (@ac _ _ _ _))) rfl)) (@av _))) (by intro _; rfl)) (@ae _ _ _ _ _ (@aN _ _ _ _ _ _ _ _ (@ap _ _ _ _ _ _ _ _ fP (@pv _ 2 _ _ (by rfl) (by trivial) (by decide) (by decide)) (@aD _ _ _ _) (aq _)) (@ah _ _ _ (@ic _ _ _ _ _ _ _ _ _ hu (@pv _ 4 _ _ (by rfl) (by trivial) (by decide) (by decide)) (@pv _ 2 _ _ (by rfl) (by trivial) (by decide) (by decide)) (@ac _ _ _ _) rfl)) (@av _)) (@ah _ _ _ (@ar _ _ _ _ (@aX _ _ _ _ _ (@aa _ _ _ _ _ (@aA _ _ _ _ _ _ _ _ aW (@aA _ _ _ _ _ _ _ _ dC (@pv _ 3 _ _ (by rfl) (by trivial) (by decide) (by decide)) (@ac _ _ _ _)) (@ac _ _ _ _)) (@aa _ _ _ _ _ (@dw _ _ _ _ _ _ _ _ _ dS rfl T.tuple (by decide +kernel) (@aa _ _ _ _ _ (@ax _ _ _ _ _ _ _ _ _ (kQ rfl) rfl T.sorted (by decide +kernel) (@aa _ _ _ _ _ (@eP _ _ _ _ _ _ _ _ _ PySem.F.plainAttrs_dict PySem.F.slot_dict_items PySem.F.type_dict_items rW (@pv _ 4 _ _ (by rfl) (by trivial) (by decide) (by decide)) (by rfl) (by rfl)) (@ab _) (by rfl)) (by decide) (by decide) (by rfl) (by rfl)) (@ab _) (by rfl)) (by decide) (by decide) (by rfl) (by rfl)) (@ab _) (by rfl)) (by rfl))))))))), ?_⟩
 refine ⟨_, rfl, a, n, rfl, hD, fun H1 c s1 D1 c0 c1 => ?_⟩
 intro d hd
 have da : d ≠ a := fun e => D1.some (e ▸ hd)
 have t1 := s1 _ _ ta hT
 have dt : t ≠ d := am t1 hd
 have s2 := af hd (.dK [])
 have d2 : upd H1 d (.dK []) d = some (.dK (dk [])) := ad
 have D2 := D1.m s2
 have t2 := s2 _ _ t1
 generalize upd H1 d (.dK []) = H2 at s2 d2 D2 t2 ⊢
 refine ⟨_, rfl, t, rfl, ⟨_, SqL.of t2⟩, eN (xs := ns.map V.str) (fun i σ H' => ∃ (kvs : List Pr) (o1 o2 : Option V), σ = [some (.ref a), some (.ref t), some (.str x), some (.int c), some (.ref d), o1, o2] /\ ao H1 H' /\ H' d = some (.dK (dk kvs)) /\ (kvs.map (·.1)).Nodup /\ kvs.length <= i /\ ∀ p ∈ kvs, p.1 ∈ ns /\ 1 <= p.2 /\ p.2 <= 99)
  ⟨[], _, _, rfl, s2, d2, by simp, by simp, by simp⟩ (fun i σ H' _ ⟨_, _, _, _, sx, _⟩ => SqL.of (sx _ _ t1)) ?T1 ?_⟩
 case T1 =>
  rintro i y σ H3 p hx ⟨kvs, o1, o2, rfl, s3, d3, ndk, lk, hall⟩ hp
  rw [List.getElem?_map] at hx
  obtain ⟨z, hz, rfl⟩ := Option.map_eq_some_iff.mp hx
  have hi : i < ns.length := (List.getElem?_eq_some_iff.mp hz).1
  have zm := List.mem_of_getElem? hz
  have s4 := s3.trans (af hp (.tup [.int i, .str z]))
  have d4 := af hp (.tup [.int i, .str z]) _ _ d3
  refine ⟨p, _, rfl, SqT.of ad, rfl, _, _, rfl, _, _, rfl, rfl, ?_⟩
  generalize upd H3 p (.tup [.int i, .str z]) = H4 at s4 d4 ⊢
  refine ⟨_, rfl, _, rfl, _, _, rfl, rfl, (by show (0 : Int) <= (i : Int); omega), _, _, rfl, rfl, rfl, _, rfl, bn (fun _ => ?_) (fun _ => ⟨kvs, _, _, rfl, s4, d4, ndk, by omega, hall⟩)⟩
  obtain ⟨m, hm, m0, m1⟩ := vO (i := i) (by omega)
  refine ⟨_, rfl, le4, fun l hl => ?_⟩
  have s5 := af hl (.lst [V.int 16, .int 1584, .int 156816, .int 15524784])
  have d5 := s5 _ _ d4
  obtain ⟨g0, g1⟩ := aY (a := c / m) 99 (by decide)
  refine ⟨_, rfl, l, _, _, .int m, rfl, rfl, SqL.of ad, hm, _, _, rfl, rfl, ⟨m0, by omega⟩, _, _, rfl, rfl, (by show (0 : Int) < 99; decide), _, _, rfl, rfl, _, rfl, _, rfl, d, _, rfl, mv.k (k := Sum.inr z) d5 ?_, ?_⟩
  ·rw [show (dk kvs).length = kvs.length from List.length_map _, sizeLine_eq]; omega
  refine ⟨iQ kvs z (1 + c / m % 99), _, _, rfl, fun e o he => ?_, ?_, pQ ndk, Nat.le_trans (sX _ _ _) (by omega), sN (R := fun p => p.1 ∈ ns /\ 1 <= p.2 /\ p.2 <= 99) hall ⟨zm, by show 1 <= 1 + c / m % 99; omega, by show 1 + c / m % 99 <= 99; omega⟩⟩
  ·rw [aE (am he hd)]; exact s5 _ _ (s4 _ _ he)
  ·rw [ad, tm]
 rintro σ H3 ⟨kvs, o1, o2, rfl, s3, d3, ndk, lk, hall⟩
 rw [List.length_map] at lk
 have s03 : aS a H H3 := s1.trans (ao.b a s3)
 have D3 := D1.m s3
 obtain ⟨g0, g1⟩ := aY (a := c / 1536953616) 100 (by decide)
 have fin : ∀ (H4 : Hp) (kv : List Pr), aS a H H4 -> Dr H4 a (n - 1) -> H4 d = some (.dK (dk kv)) -> kv.length <= 5 -> (∀ p ∈ kv, 1 <= p.2) -> (∀ p ∈ kv, p.2 <= 99 /\ (p.1 ∈ ns \/ (x ≠ "" /\ p = (x, 1)))) -> (x ≠ "" -> (x, (1 : Int)) ∈ kv) -> ∀ v, H4 v = none -> ∀ (H5 : Hp) (l : Addr) (qs : List TK), ao (upd H4 v (gY v d)) H5 -> (∀ r ∈ qs, H5 r.1 = some (.tup (.str r.2.1 :: r.2.2)) /\ upd H4 v (gY v d) r.1 = none) -> H5 l = some (.lst (qs.map fun r => V.ref r.1)) -> (qs.map (·.2)).Perm ((kv.map fun p => (p.1, V.int p.2)).map fun p => (p.1, [p.2])) -> qs.Pairwise rg ->
   ∀ t, H5 t = none -> 2 <= sizeLine /\ ∀ p, upd H5 t (.tup (qs.map fun r => V.ref r.1)) p = none -> Q (.ref p) (upd (upd H5 t (.tup (qs.map fun r => V.ref r.1))) p (.tup [.int (c / 1536953616 % 100), .ref t])) := fun H4 kv s4 D4 d4 l5 ge all new v hv H5 l qs s5 hq hl pq pw t ht => by
  obtain ⟨perm, can, rep⟩ := lY hq pq pw ge
  refine ⟨z2, fun p hp => ?_⟩
  have s6 := (af hv (gY v d)).trans (s5.trans (af ht (.tup (qs.map fun r => V.ref r.1))))
  have s7 := af hp (.tup [.int (c / 1536953616 % 100), .ref t])
  exact q _ _ _ _ (s4.trans (ao.b a (s6.trans s7))) (D4.m (s6.trans s7)) (tq ad ((rep t ht).mono s7)) ⟨g0, by omega, can, by rw [perm.length_eq]; exact l5, fun p hp => all p (perm.mem_iff.mp hp), fun e => perm.mem_iff.mpr (new e)⟩
 have two : ∀ (H4 : Hp) (kv : List Pr) (v : Addr), H4 d = some (.dK (dk kv)) -> H4 v = none -> upd H4 v (gY v d) d = some (.dK ((kv.map fun p => (p.1, V.int p.2)).map fun p => ((Sum.inr p.1 : Key), p.2))) := fun H4 kv v d4 hv => by rw [aE (am d4 hv), d4, List.map_map]; rfl
 refine ⟨_, rfl, rfl, _, rfl, ?_⟩
 show if (!decide (V.str x = V.str "")) = true then _ else _
 rw [bO]
 by_cases hx : x = ""
 ·rw [decide_eq_true hx]
  refine aM ⟨_, rfl, _, _, rfl, rfl, ⟨by decide, by decide⟩, _, _, rfl, rfl, (by show (0 : Int) < 100; decide), ?_⟩
  refine ⟨_, rfl, .inr (.inr (.inl ⟨rfl, .inl ⟨_, d3⟩⟩)), d, _, rfl, rfl, d3, fun v hv => ?_⟩
  refine ⟨v, d, kvs.map fun p => (p.1, V.int p.2), rfl, ad, two H3 kvs v d3 hv, by rw [List.length_map]; omega, fun H4 l4 qs s4 _ hq hl4 pq pw => ⟨l4, _, rfl, .inl ⟨SqL.of hl4, fun t ht => ?_⟩⟩⟩
  exact fin H3 kvs s03 D3 d3 (by omega) (fun p hp => (hall p hp).2.1) (fun p hp => ⟨(hall p hp).2.2, .inl (hall p hp).1⟩) (fun z => absurd hx z) v hv H4 l4 qs s4 hq hl4 pq pw t ht
 ·rw [decide_eq_false hx]
  have xk : x ∉ kvs.map (·.1) := fun z => by obtain ⟨p, hp, e⟩ := List.mem_map.mp z; exact xn (e ▸ (hall p hp).1)
  refine aO ⟨_, rfl, _, rfl, d, _, rfl, mv.k (k := Sum.inr x) d3 ?_, ?_⟩
  ·rw [show (dk kvs).length = kvs.length from List.length_map _, sizeLine_eq]; omega
  have d4 : upd H3 d (.dK (dZ (dk kvs) (Sum.inr x) (.int 1))) d = some (.dK (dk (kvs ++ [(x, 1)]))) := by rw [ad, <- tm, sZ xk]
  have s4 : aS a H (upd H3 d (.dK (dZ (dk kvs) (Sum.inr x) (.int 1)))) := fun g o hg e => by
   by_cases z : g = d
   ·subst z
    rw [s1 _ _ hg e] at hd; cases hd
   ·rw [aE z]; exact s03 g o hg e
  have D4 := D3.b (aS.upd H3 d (.dK (dZ (dk kvs) (Sum.inr x) (.int 1)))) (Ne.symm da)
  generalize upd H3 d (.dK (dZ (dk kvs) (Sum.inr x) (.int 1))) = H4 at d4 s4 D4 ⊢
  refine ⟨_, rfl, _, _, rfl, rfl, ⟨by decide, by decide⟩, _, _, rfl, rfl, (by show (0 : Int) < 100; decide), ?_⟩
  refine ⟨_, rfl, .inr (.inr (.inl ⟨rfl, .inl ⟨_, d4⟩⟩)), d, _, rfl, rfl, d4, fun v hv => ?_⟩
  refine ⟨v, d, (kvs ++ [(x, 1)]).map fun p : Pr => (p.1, V.int p.2), rfl, ad, two H4 _ v d4 hv, by rw [List.length_map, List.length_append, List.length_singleton]; omega, fun H5 l4 qs s5 _ hq hl4 pq pw => ⟨l4, _, rfl, .inl ⟨SqL.of hl4, fun t ht => ?_⟩⟩⟩
  refine fin H4 _ s4 D4 d4 (by rw [List.length_append, List.length_singleton]; omega) (fun p hp => ?_) (fun p hp => ?_) (fun _ => by simp) v hv H5 l4 qs s5 hq hl4 pq pw t ht
  ·rcases List.mem_append.mp hp with h | h
   ·exact (hall p h).2.1
   ·rw [List.mem_singleton.mp h]; exact Int.le_refl 1
  ·rcases List.mem_append.mp hp with h | h
   ·exact ⟨(hall p h).2.2, .inl (hall p h).1⟩
   ·rw [List.mem_singleton.mp h]; exact ⟨by show (1 : Int) <= 99; decide, .inr ⟨hx, rfl⟩⟩
end
theorem vX {α : Type} {l : List α} {a : α} (nd : l.Nodup) (ha : a ∈ l) (h : ∀ x ∈ l, x = a) : l = [a] := by
 match l, nd, ha, h with
 | [x], _, _, h => rw [h x List.mem_cons_self]
 | x :: y :: r, nd, _, h =>
  have h1 := h x List.mem_cons_self
  have h2 := h y (List.mem_cons_of_mem _ List.mem_cons_self)
  exact absurd (List.nodup_cons.mp nd).1 (fun z => z (by rw [h1, <- h2]; exact List.mem_cons_self))
theorem wD {ps : List Pr} (h : mr ps) : ps.Nodup := by
 have h2 := mE h.pw
 rw [List.Nodup, List.pairwise_map] at h2
 exact h2.imp fun z e => z (by rw [e])
theorem qv {bs : List Str} {x : Str} {c : Int} {ps : List Pr} (h : Sm bs x c ps) (hx : x ∉ bs) (h0 : x ≠ "") : cb bs ps = [(x, 1)] := by
 refine vX ((List.filter_sublist).nodup (wD h.can)) (List.mem_filter.mpr ⟨h.new h0, by simp [hx]⟩) fun p hp => ?_
 obtain ⟨h1, h2⟩ := List.mem_filter.mp hp
 rcases (h.all p h1).2 with z | z
 ·simp [z] at h2
 ·exact z.2
theorem jK {bs : List Str} {ps : List Pr} (h : ∀ p ∈ ps, p.1 ∈ bs) : cb bs ps = [] := by
 unfold cb
 rw [List.filter_eq_nil_iff]
 intro p hp
 simp [h p hp]
theorem nu {bs : List Str} {c : Int} {ps : List Pr} (h : Sm bs "" c ps) : ∀ p ∈ ps, p.1 ∈ bs := fun p hp => by
 rcases (h.all p hp).2 with z | z
 ·exact z
 ·exact absurd rfl z.1
theorem ev {ns bs : List Str} {k : Kd} (h : cC bs k = []) : cR ns bs k = some bs := by
 unfold cR
 rw [h, if_pos (by rfl)]
 simp
theorem tO {ns bs : List Str} {x : Str} {c : Int} {ps : List Pr} {j : Kd} (h : cb bs ps = [(x, 1)]) (hx : x ∈ ns) : cR ns bs (.row c ps j) = some (bs ++ [x]) := by
 have e : cC bs (.row c ps j) = [(x, 1)] := h
 unfold cR
 rw [e, if_pos]
 ·rfl
 ·show (false || (decide (Str.ofString "row" = Str.ofString "row") && (decide (1 = 1) && decide ((x, (1 : Int)) ∈ ns.map fun x => (x, (1 : Int)))))) = true
  rw [decide_eq_true rfl, decide_eq_true rfl, decide_eq_true (List.mem_map.mpr ⟨x, hx, rfl⟩)]; rfl
def jq (bs : List Str) : Kd -> Prop
 | .whole => True
 | .place _ ps => ∀ p ∈ ps, p.1 ∈ bs
 | _ => False
theorem jM {ns bs : List Str} {k : Kd} (h : jq bs k) : bP ns bs k.pts = some bs := by
 cases k with
 | whole =>
  show (match cR ns bs .whole with | none => none | some cs => bP ns cs []) = _
  rw [ev rfl]; rfl
 | place c ps =>
  show (match cR ns bs (.place c ps) with | none => none | some cs => bP ns cs []) = _
  rw [ev (k := .place c ps) (jK h)]; rfl
 | row c ps j => exact h.elim
 | pair i j => exact h.elim
structure SmK (os : List Str) (c : Int) (ps : List Pr) : Prop where
 c0 : 0 <= c
 c1 : c <= 99
 can : mr ps
 len : ps.length <= 5
 all : ∀ p ∈ ps, p.2 <= 99 /\ p.1 ∈ os
theorem Sm.k {os ns : List Str} {x : Str} {c : Int} {ps : List Pr} (h : Sm ns x c ps) (hs : ∀ y ∈ ns, y ∈ os) (hx : x ≠ "" -> x ∈ os) : SmK os c ps := ⟨h.c0, h.c1, h.can, h.len, fun p hp => ⟨(h.all p hp).1, by
 rcases (h.all p hp).2 with z | z
 ·exact hs _ z
 ·rw [z.2]; exact hx z.1⟩⟩
theorem rF {k : Kd} (h : k.word = "row") : ∃ c ps j, k = .row c ps j := by
 cases k with
 | whole => exact absurd h (by decide +kernel)
 | place c ps => exact absurd (show Str.ofString "place" = Str.ofString "row" from h) (by decide +kernel)
 | row c ps j => exact ⟨c, ps, j, rfl⟩
 | pair i j => exact absurd (show Str.ofString "pair" = Str.ofString "row" from h) (by decide +kernel)
structure lI (os : List Str) (i : Nat) (ks : List Kd) : Prop where
 bnd : bP os [] (ks.flatMap Kd.pts) = some (os.take i)
 last : ∀ ks0 c ps j, ks = ks0 ++ [.row c ps j] -> j.word ≠ Str.ofString "row" -> ∃ bs, bP os [] (ks0.flatMap Kd.pts) = some bs /\ cR os bs (.row c ps j) = some (os.take i)
 all : ∀ k ∈ ks, k.size <= 4 /\ k.All (SmK os)
 len : ks.length <= i
theorem cM {ns bs cs : List Str} {k : Kd} {ks : List Kd} (h : cR ns bs k = some cs) : bP ns bs (k :: ks) = bP ns cs ks := by
 show (match cR ns bs k with | none => none | some cs => bP ns cs ks) = _
 rw [h]
theorem fg (ks : List Kd) (k : Kd) : (ks ++ [k]).flatMap Kd.pts = ks.flatMap Kd.pts ++ k.pts := by rw [List.flatMap_append]; simp
section
variable {os : List Str} {i : Nat} {x : Str} {c : Int} {ps : List Pr} {j : Kd} {ks : List Kd}
theorem jN (h : os[i]? = some x) : os.take (i + 1) = os.take i ++ [x] := by rw [List.take_add_one, h]; rfl
theorem lQ (nd : os.Nodup) (h : os[i]? = some x) : x ∉ os.take i := fun z => by
 have h1 : (os.take (i + 1)).Nodup := (List.take_sublist _ _).nodup nd
 rw [jN h, List.nodup_append] at h1
 exact h1.2.2 x z x (by simp) rfl
theorem mm (h : os[i]? = some x) (nd : os.Nodup) (x0 : x ≠ "") (sm : Sm (os.take i) x c ps) : cR os (os.take i) (.row c ps j) = some (os.take (i + 1)) := by
 rw [tO (qv sm (lQ nd h) x0) (List.mem_of_getElem? h), jN h]
theorem kq (h : os[i]? = some x) (nd : os.Nodup) (x0 : x ≠ "") (sm : Sm (os.take i) x c ps) (st : jq (os.take (i + 1)) j) : bP os (os.take i) (Kd.row c ps j).pts = some (os.take (i + 1)) := by
 show bP os (os.take i) (.row c ps j :: j.pts) = _
 rw [cM (mm h nd x0 sm), jM st]
theorem sO (I : lI os i ks) (h : os[i]? = some x) (nd : os.Nodup) (x0 : x ≠ "") (sm : Sm (os.take i) x c ps) (st : jq (os.take (i + 1)) j) (sz : j.size <= 1) (al : j.All (SmK os)) : lI os (i + 1) (ks ++ [.row c ps j]) := by
 refine ⟨?_, fun ks0 c' ps' j' e _ => ?_, fun k hk => ?_, by rw [List.length_append, List.length_singleton]; have := I.len; omega⟩
 ·rw [fg, bQ, I.bnd]
  exact kq h nd x0 sm st
 ·obtain ⟨e1, e2⟩ := List.append_inj' e rfl
  injection e2 with e2 _
  injection e2 with e3 e4 e5
  subst e1; subst e3; subst e4; subst e5
  exact ⟨_, I.bnd, mm h nd x0 sm⟩
 ·rcases List.mem_append.mp hk with hk | hk
  ·exact I.all k hk
  ·rw [List.mem_singleton.mp hk]
   exact ⟨by show j.size + 1 <= 4; omega, sm.k (fun y hy => List.mem_of_mem_take hy) (fun _ => List.mem_of_getElem? h), al⟩
theorem qy {c1 : Int} {p1 : List Pr} (I : lI os i ks) (h : os[i]? = some x) (nd : os.Nodup) (x0 : x ≠ "") (sm : Sm (os.take i) x c ps) (st : jq (os.take (i + 1)) j) (sz : j.size <= 1) (al : j.All (SmK os)) (s1 : Sm (os.take i) "" c1 p1) : lI os (i + 1) (ks ++ [.pair (.place c1 p1) (.row c ps j)]) := by
 refine ⟨?_, fun ks0 c' ps' j' e _ => ?_, fun k hk => ?_, by rw [List.length_append, List.length_singleton]; have := I.len; omega⟩
 ·rw [fg, bQ, I.bnd]
  show bP os (os.take i) (.pair (.place c1 p1) (.row c ps j) :: ((Kd.place c1 p1).pts ++ (Kd.row c ps j).pts)) = _
  rw [cM (ev rfl), bQ, jM (k := .place c1 p1) (nu s1)]
  exact kq h nd x0 sm st
 ·obtain ⟨_, e2⟩ := List.append_inj' e rfl
  injection e2 with e2 _
  cases e2
 ·rcases List.mem_append.mp hk with hk | hk
  ·exact I.all k hk
  ·rw [List.mem_singleton.mp hk]
   exact ⟨by show 1 + (j.size + 1) + 1 <= 4; omega, s1.k (fun y hy => List.mem_of_mem_take hy) (fun z => absurd rfl z), sm.k (fun y hy => List.mem_of_mem_take hy) (fun _ => List.mem_of_getElem? h), al⟩
theorem uQ {c0 : Int} {p0 : List Pr} {j0 : Kd} (I : lI os i (ks ++ [.row c0 p0 j0])) (hj : j0.word ≠ Str.ofString "row") (h : os[i]? = some x) (nd : os.Nodup) (x0 : x ≠ "") (sm : Sm (os.take i) x c ps) (st : jq (os.take (i + 1)) j) (sz : j.size <= 1) (al : j.All (SmK os)) : lI os (i + 1) (ks ++ [.row c0 p0 (.row c ps j)]) := by
 obtain ⟨bs, h1, h2⟩ := I.last ks c0 p0 j0 rfl hj
 have h2' : cR os bs (.row c0 p0 (.row c ps j)) = some (os.take i) := h2
 refine ⟨?_, fun ks0 c' ps' j' e hn => ?_, fun k hk => ?_, by have := I.len; rw [List.length_append, List.length_singleton] at this ⊢; omega⟩
 ·rw [fg, bQ, h1]
  show bP os bs (.row c0 p0 (.row c ps j) :: (Kd.row c ps j).pts) = _
  rw [cM h2']
  exact kq h nd x0 sm st
 ·obtain ⟨_, e2⟩ := List.append_inj' e rfl
  injection e2 with e2 _
  injection e2 with _ _ e5
  subst e5
  exact absurd rfl hn
 ·rcases List.mem_append.mp hk with hk | hk
  ·exact I.all k (List.mem_append_left _ hk)
  ·rw [List.mem_singleton.mp hk]
   have := I.all (.row c0 p0 j0) (by simp)
   exact ⟨by show (j.size + 1) + 1 <= 4; omega, this.2.1, sm.k (fun y hy => List.mem_of_mem_take hy) (fun _ => List.mem_of_getElem? h), al⟩
end
structure BK (os : List Str) (ks : List Kd) : Prop where
 bnd : bP os [] (ks.flatMap Kd.pts) = some os
 all : ∀ k ∈ ks, k.size <= 4 /\ k.All (SmK os)
 len : ks.length <= 4
theorem tQ {os : List Str} {ks : List Kd} {c : Int} {ps : List Pr} (h : BK os ks) (l3 : ks.length < 4) (sm : Sm os "" c ps) : BK os (ks ++ [.row c ps (.pair .whole .whole)]) := by
 refine ⟨?_, fun k hk => ?_, by rw [List.length_append, List.length_singleton]; omega⟩
 ·rw [fg, bQ, h.bnd]
  show bP os os [.row c ps (.pair .whole .whole), .pair .whole .whole, .whole, .whole] = _
  rw [cM (ev (k := .row c ps (.pair .whole .whole)) (jK (nu sm))), cM (ev rfl), cM (ev rfl), cM (ev rfl)]
  rfl
 ·rcases List.mem_append.mp hk with hk | hk
  ·exact h.all k hk
  ·rw [List.mem_singleton.mp hk]
   exact ⟨by show 4 <= 4; decide, sm.k (fun y hy => hy) (fun z => absurd rfl z), trivial, trivial⟩
theorem qO {ns os : List Str} (h : ∀ x, x ∈ ns ↔ x ∈ os) (k : Kd) (fs : List Pr) : kB k fs ns = kB k fs os := by
 have e : ∀ p : Pr, decide (p ∈ ns.map fun x => (x, (1 : Int))) = decide (p ∈ os.map fun x => (x, (1 : Int))) := fun p => by
  rw [Bool.eq_iff_iff, decide_eq_true_iff, decide_eq_true_iff, List.mem_map, List.mem_map]
  exact ⟨fun ⟨y, hy, e⟩ => ⟨y, (h y).mp hy, e⟩, fun ⟨y, hy, e⟩ => ⟨y, (h y).mpr hy, e⟩⟩
 unfold kB
 rw [show (fs.map fun p => decide (p ∈ ns.map fun x => (x, (1 : Int)))) = fs.map fun p => decide (p ∈ os.map fun x => (x, (1 : Int))) from List.map_congr_left fun p _ => e p]
theorem jD {ns os : List Str} (h : ∀ x, x ∈ ns ↔ x ∈ os) : ∀ (ks : List Kd) (bs : List Str), bP ns bs ks = bP os bs ks
 | [], _ => rfl
 | k :: ks, bs => by
  show (match cR ns bs k with | none => none | some cs => bP ns cs ks) = match cR os bs k with | none => none | some cs => bP os cs ks
  have : cR ns bs k = cR os bs k := by unfold cR; rw [qO h]
  rw [this]
  cases cR os bs k with
  | none => rfl
  | some cs => exact jD h ks cs
abbrev bA : Stmt := top 56
theorem iR (os : List Str) (n : Nat) (h : n <= os.length) : bc (os.map V.str) none (some (n : Int)) = (os.take n).map V.str := by
 rw [wq _ n (by rw [List.length_map]; exact h), List.map_take]
theorem qm (os : List Str) (n : Nat) (h : n + 1 <= os.length) : bc (os.map V.str) none (some ((n : Int) + 1)) = (os.take (n + 1)).map V.str := iR os (n + 1) h
theorem vm {x : Str} (h : nmB x = true) : x ≠ Str.ofString "" := fun e => by
 subst e
 exact absurd h (by decide +kernel)
def wF : Sp := fun vs H Q _ => ∃ (o a : Addr) (n : Nat) (os : List Str), vs = [.ref o, .ref a] /\ Dr H a n /\ H o = some (.lst (os.map V.str)) /\ o ≠ a /\ os.Nodup /\ os.length <= 4 /\ (∀ x ∈ os, nmB x = true) /\
 ∀ (H' : Hp) (l : Addr) (us : List V) (ks : List Kd) (n' : Nat), aS a H H' -> Dr H' a n' -> H l = none -> l ≠ a -> H' l = some (.lst us) -> aj H' (ks.map Kd.dv) us -> BK os ks -> Q (.ref l) H'
section
variable {P : Program} {w : World} {K : PySem.W.Frag} {mg : Str -> Option Value} {base : Heap}
theorem eX : aH ["_law_order", "_law_draws_here", "_law_kinds", "_law_k", "_law_name", "_law_length", "_law_cell", "_law_inner", "_law_one", "_law_way"] ["_law_order", "_law_draws_here"] (ai bA) := ⟨rfl, rfl, rfl, by decide +kernel, rfl, by decide +kernel, by decide +kernel⟩
theorem iW {f : Addr} {fd : FuncData} {k : Nat} (F : Fun K "_law_bound_kinds" "_law_bound_kinds" bA f fd) (T : Txt K mg) (D_law_next : Def P w K mg base k "_law_next" ["_law_draws_here"] fB) (D_law_sum : Def P w K mg base k "_law_sum" ["_law_draws_here", "_law_told", "_law_new"] sH) : bi P w K mg base CX0 (k + 1) f fd ["_law_order", "_law_draws_here"] wF := by
 have nd : (["_law_order", "_law_draws_here", "_law_kinds", "_law_k", "_law_name", "_law_length", "_law_cell", "_law_inner", "_law_one", "_law_way"] : List Str).Nodup := eX.nd
 refine F.ok eX (fun vs H Q E h => ?_) (fun cdv A outer s H vs Q E hr h => ?_)
 ·obtain ⟨o, a, n, os, rfl, _⟩ := h
  rfl
 obtain ⟨o, a, n, os, rfl, hD, hO, oa, ndo, l4, nmo, q⟩ := h
 have hu := mW hr
 have huL : (A.deeper (PyProof.Rows.envOfC (Str.ofString "_law_bound_kinds") (ai bA) s.heap.objs.size f cdv)).units < cLine := by omega
 have emp : Str.ofString "" ∉ os := fun z => vm (nmo _ z) rfl
 refine ⟨_, (@ae _ _ _ _ _ (@aJ _ _ (2) _ _ _ _ nd rfl (Or.inl rfl) (@bp _ _ _ _ (@ab _)) (by rfl) (by trivial)) (@ae _ _ _ _ _ (@cB _ _ _ _ _ _ _ _ PassesOwn.never rfl (@eZ _ _ _ _ _ _ _ _ rfl T.enumerate (@aa _ _ _ _ _ (@pv _ 0 _ _ (by rfl) (by trivial) (by decide) (by decide)) (@ab _) (by rfl)) (by rfl)) (@cW _ _ _ _ _ _ rfl (@aT _ _ _ _ _ (@aK _ _ (3) _ nd rfl (Or.inl rfl) (by trivial)) (@aT _ _ _ _ _ (@aK _ _ (4) _ nd rfl (Or.inl rfl) (by trivial)) (@cc _) (by rfl)) (by rfl)) (by rfl) (by rfl)) (@ae _ _ _ _ _ (@aJ _ _ (5) _ _ _ _ nd rfl (Or.inl rfl) (@au _ _ _ _ _ _ _ _ _ _ D_law_sum hr rfl (@aa _ _ _ _ _ (@pv _ 1 _ _ (by rfl) (by trivial) (by decide) (by decide)) (@aa _ _ _ _ _ (@bq _ _ _ _ _ _ _ _ _ _ ce (@pv _ 0 _ _ (by rfl) (by trivial) (by decide) (by decide)) (@bI _) (@bw _ _ _ (@pv _ 3 _ _ (by rfl) (by trivial) (by decide) (by decide)))) (@aa _ _ _ _ _ (@pv _ 4 _ _ (by rfl) (by trivial) (by decide) (by decide)) (@ab _) (by rfl)) (by rfl)) (by rfl)) (by decide) (by rfl) (by rfl)) (by rfl) (by trivial)) (@ae _ _ _ _ _ (@aJ _ _ (6) _ _ _ _ nd rfl (Or.inl rfl) (@au _ _ _ _ _ _ _ _ _ _ D_law_next hr rfl (@aa _ _ _ _ _ (@pv _ 1 _ _ (by rfl) (by trivial) (by decide) (by decide)) (@ab _) (by rfl)) (by decide) (by rfl) (by rfl)) (by rfl) (by trivial)) (@ae _ _ _ _ _ (@aJ _ _ (7) _ _ _ _ nd rfl (Or.inl rfl) (@aX _ _ _ _ _ (@aa _ _ _ _ _ (@aD _ _ _ _) (@ab _) (by rfl))) (by rfl) (by trivial)) (@ae _ _ _ _ _ (@aN _ _ _ _ _ _ _ _ (@ap _ _ _ _ _ _ _ _ aU (@aA _ _ _ _ _ _ _ _ aW (@pv _ 6 _ _ (by rfl) (by trivial) (by decide) (by decide)) (@ac _ _ _ _)) (@ac _ _ _ _) (aq _)) (@ah _ _ _ (@aJ _ _ (7) _ _ _ _ nd rfl (Or.inl rfl) (@aX _ _ _ _ _ (@aa _ _ _ _ _ (@aD _ _ _ _) (@aa _ _ _ _ _ (@au _ _ _ _ _ _ _ _ _ _ D_law_sum hr rfl (@aa _ _ _ _ _ (@pv _ 1 _ _ (by rfl) (by trivial) (by decide) (by decide)) (@aa _ _ _ _ _ (@bq _ _ _ _ _ _ _ _ _ _ ce (@pv _ 0 _ _ (by rfl) (by trivial) (by decide) (by decide)) (@bI _) (@bw _ _ _ (@aA _ _ _ _ _ _ _ _ cV (@pv _ 3 _ _ (by rfl) (by trivial) (by decide) (by decide)) (@ac _ _ _ _)))) (@aa _ _ _ _ _ (@aD _ _ _ _) (@ab _) (by rfl)) (by rfl)) (by rfl)) (by decide) (by rfl) (by rfl)) (@ab _) (by rfl)) (by rfl))) (by rfl) (by trivial))) (@av _)) (@ae _ _ _ _ _ (@aJ _ _ (8) _ _ _ _ nd rfl (Or.inl rfl) (@aX _ _ _ _ _ (@aa _ _ _ _ _ (@aD _ _ _ _) (@aa _ _ _ _ _ (@pv _ 5 _ _ (by rfl) (by trivial) (by decide) (by decide)) (@aa _ _ _ _ _ (@pv _ 7 _ _ (by rfl) (by trivial) (by decide) (by decide)) (@ab _) (by rfl)) (by rfl)) (by rfl))) (by rfl) (by trivial)) (@ae _ _ _ _ _ (@aJ _ _ (9) _ _ _ _ nd rfl (Or.inl rfl) (@aA _ _ _ _ _ _ _ _ aW (@aA _ _ _ _ _ _ _ _ cy (@pv _ 6 _ _ (by rfl) (by trivial) (by decide) (by decide)) (@ac _ _ _ _)) (@ac _ _ _ _)) (by rfl) (by trivial)) (@ae _ _ _ _ _ (@aN _ _ _ _ _ _ _ _ (@PW.pt _ _ _ (@fz _ _ _ _ _ _ _ (@ap _ _ _ _ _ _ _ _ aU (@pv _ 9 _ _ (by rfl) (by trivial) (by decide) (by decide)) (@ac _ _ _ _) (aq _)) (@fU _ _ _ _ (@ap _ _ _ _ _ _ _ _ gH (@pv _ 3 _ _ (by rfl) (by trivial) (by decide) (by decide)) (@ac _ _ _ _) (aq _))))) (@ah _ _ _ (@aJ _ _ (8) _ _ _ _ nd rfl (Or.inl rfl) (@aX _ _ _ _ _ (@aa _ _ _ _ _ (@aD _ _ _ _) (@aa _ _ _ _ _ (@aX _ _ _ _ _ (@aa _ _ _ _ _ (@aD _ _ _ _) (@aa _ _ _ _ _ (@au _ _ _ _ _ _ _ _ _ _ D_law_sum hr rfl (@aa _ _ _ _ _ (@pv _ 1 _ _ (by rfl) (by trivial) (by decide) (by decide)) (@aa _ _ _ _ _ (@bq _ _ _ _ _ _ _ _ _ _ ce (@pv _ 0 _ _ (by rfl) (by trivial) (by decide) (by decide)) (@bI _) (@bw _ _ _ (@pv _ 3 _ _ (by rfl) (by trivial) (by decide) (by decide)))) (@aa _ _ _ _ _ (@aD _ _ _ _) (@ab _) (by rfl)) (by rfl)) (by rfl)) (by decide) (by rfl) (by rfl)) (@ab _) (by rfl)) (by rfl))) (@aa _ _ _ _ _ (@pv _ 8 _ _ (by rfl) (by trivial) (by decide) (by decide)) (@ab _) (by rfl)) (by rfl)) (by rfl))) (by rfl) (by trivial))) (@av _)) (@ae _ _ _ _ _ (@aN _ _ _ _ _ _ _ _ (@PW.pt _ _ _ (@fz _ _ _ _ _ _ _ (@ap _ _ _ _ _ _ _ _ aU (@pv _ 9 _ _ (by rfl) (by trivial) (by decide) (by decide)) (@ac _ _ _ _) (aq _)) (@fz _ _ _ _ _ _ _ (@ap _ _ _ _ _ _ _ _ (wK huL) (@pv _ 2 _ _ (by rfl) (by trivial) (by decide) (by decide)) (@bp _ _ _ _ (@ab _)) (aq _)) (@fz _ _ _ _ _ _ _ (@ap _ _ _ _ _ _ _ _ aU (@ay _ _ _ _ _ _ _ aB (@ay _ _ _ _ _ _ _ br (@pv _ 2 _ _ (by rfl) (by trivial) (by decide) (by decide)) (@mI _ _ _ _ _ _ iu (@ac _ _ _ _)) (fun _ _ => rfl)) (@ac _ _ _ _) (fun _ _ => rfl)) (@aD _ _ _ _) (aq _)) (@fU _ _ _ _ (@ap _ _ _ _ _ _ _ _ fP (@ay _ _ _ _ _ _ _ aB (@ay _ _ _ _ _ _ _ aB (@ay _ _ _ _ _ _ _ br (@pv _ 2 _ _ (by rfl) (by trivial) (by decide) (by decide)) (@mI _ _ _ _ _ _ iu (@ac _ _ _ _)) (fun _ _ => rfl)) (@ac _ _ _ _) (fun _ _ => rfl)) (@ac _ _ _ _) (fun _ _ => rfl)) (@aD _ _ _ _) (aq _))))))) (@ae _ _ _ _ _ (@aJ _ _ (8) _ _ _ _ nd rfl (Or.inl rfl) (@aX _ _ _ _ _ (@aa _ _ _ _ _ (@ay _ _ _ _ _ _ _ aB (@ay _ _ _ _ _ _ _ br (@pv _ 2 _ _ (by rfl) (by trivial) (by decide) (by decide)) (@mI _ _ _ _ _ _ iu (@ac _ _ _ _)) (fun _ _ => rfl)) (@ac _ _ _ _) (fun _ _ => rfl)) (@aa _ _ _ _ _ (@ay _ _ _ _ _ _ _ aB (@ay _ _ _ _ _ _ _ br (@pv _ 2 _ _ (by rfl) (by trivial) (by decide) (by decide)) (@mI _ _ _ _ _ _ iu (@ac _ _ _ _)) (fun _ _ => rfl)) (@ac _ _ _ _) (fun _ _ => rfl)) (@aa _ _ _ _ _ (@pv _ 8 _ _ (by rfl) (by trivial) (by decide) (by decide)) (@ab _) (by rfl)) (by rfl)) (by rfl))) (by rfl) (by trivial)) (@ah _ _ _ (@bt _ _ _ _ (@eP _ _ _ _ _ _ _ _ _ PySem.F.plainAttrs_list PySem.F.slot_list_pop PySem.F.type_list_pop iz (@pv _ 2 _ _ (by rfl) (by trivial) (by decide) (by decide)) (by rfl) (by rfl)) (by rfl)))) (@av _)) (@ah _ _ _ (@bt _ _ _ _ (@dX _ _ _ _ _ _ _ _ _ _ _ _ PySem.F.plainAttrs_list PySem.F.slot_list_append PySem.F.type_list_append bZ (@pv _ 2 _ _ (by rfl) (by trivial) (by decide) (by decide)) (@aa _ _ _ _ _ (@pv _ 8 _ _ (by rfl) (by trivial) (by decide) (by decide)) (@ab _) (by rfl)) (by rfl) (by rfl) (by rfl) (by rfl) (by rfl)) (by rfl))))))))))) (by intro _; rfl)) (@ae _ _ _ _ _ (@aN _ _ _ _ _ _ _ _ (@PW.pt _ _ _ (@fz _ _ _ _ _ _ _ (@ap _ _ _ _ _ _ _ _ rq (@ax _ _ _ _ _ _ _ _ _ aI rfl T.len (by decide +kernel) (@aa _ _ _ _ _ (@pv _ 2 _ _ (by rfl) (by trivial) (by decide) (by decide)) (@ab _) (by rfl)) (by decide) (by decide) (by rfl) (by rfl)) (@ac _ _ _ _) (aq _)) (@fU _ _ _ _ (@ap _ _ _ _ _ _ _ _ aU (@aA _ _ _ _ _ _ _ _ aW (@au _ _ _ _ _ _ _ _ _ _ D_law_next hr rfl (@aa _ _ _ _ _ (@pv _ 1 _ _ (by rfl) (by trivial) (by decide) (by decide)) (@ab _) (by rfl)) (by decide) (by rfl) (by rfl)) (@ac _ _ _ _)) (@ac _ _ _ _) (aq _))))) (@ah _ _ _ (@bt _ _ _ _ (@dX _ _ _ _ _ _ _ _ _ _ _ _ PySem.F.plainAttrs_list PySem.F.slot_list_append PySem.F.type_list_append bZ (@pv _ 2 _ _ (by rfl) (by trivial) (by decide) (by decide)) (@aa _ _ _ _ _ (@aX _ _ _ _ _ (@aa _ _ _ _ _ (@aD _ _ _ _) (@aa _ _ _ _ _ (@au _ _ _ _ _ _ _ _ _ _ D_law_sum hr rfl (@aa _ _ _ _ _ (@pv _ 1 _ _ (by rfl) (by trivial) (by decide) (by decide)) (@aa _ _ _ _ _ (@pv _ 0 _ _ (by rfl) (by trivial) (by decide) (by decide)) (@aa _ _ _ _ _ (@aD _ _ _ _) (@ab _) (by rfl)) (by rfl)) (by rfl)) (by decide) (by rfl) (by rfl)) (@aa _ _ _ _ _ (@aX _ _ _ _ _ (@aa _ _ _ _ _ (@aD _ _ _ _) (@aa _ _ _ _ _ (@aX _ _ _ _ _ (@aa _ _ _ _ _ (@aD _ _ _ _) (@ab _) (by rfl))) (@aa _ _ _ _ _ (@aX _ _ _ _ _ (@aa _ _ _ _ _ (@aD _ _ _ _) (@ab _) (by rfl))) (@ab _) (by rfl)) (by rfl)) (by rfl))) (@ab _) (by rfl)) (by rfl)) (by rfl))) (@ab _) (by rfl)) (by rfl) (by rfl) (by rfl) (by rfl) (by rfl)) (by rfl))) (@av _)) (@ah _ _ _ (@ar _ _ _ _ (@pv _ 2 _ _ (by rfl) (by trivial) (by decide) (by decide))))))), ?_⟩
 refine ⟨Nat.zero_le _, fun L hL => ?_⟩
 have s0 := af hL (.lst [])
 have h0 : upd H L (.lst []) L = some (.lst []) := ad
 have D0 := hD.m s0
 have La : L ≠ a := fun e => hD.some (e ▸ hL)
 generalize upd H L (.lst []) = H0 at s0 h0 D0 ⊢
 refine ⟨_, rfl, o, rfl, ⟨_, SqL.of (s0 _ _ hO)⟩, eN (xs := os.map V.str) (fun i σ H' => ∃ (o3 o4 o5 o6 o7 o8 o9 : Option V) (ks : List Kd) (us : List V) (n' : Nat), σ = [some (.ref o), some (.ref a), some (.ref L), o3, o4, o5, o6, o7, o8, o9] /\ aS a H H' /\ Dr H' a n' /\ H' L = some (.lst us) /\ aj H' (ks.map Kd.dv) us /\ lI os i ks)
  ⟨_, _, _, _, _, _, _, [], [], n, rfl, ao.b a s0, D0, h0, by simp [aj], ⟨rfl, fun ks0 _ _ _ e => by simp at e, by simp, Nat.zero_le _⟩⟩ (fun i σ H' _ ⟨_, _, _, _, _, _, _, _, _, _, _, sx, _⟩ => SqL.of (sx _ _ oa hO)) ?T1 ?_⟩
 case T1 =>
  rintro i y σ H1 p hx ⟨o3, o4, o5, o6, o7, o8, o9, ks, us, n1, rfl, s1, D1, L1, R1, I1⟩ hp
  rw [List.getElem?_map] at hx
  obtain ⟨x, hx', rfl⟩ := Option.map_eq_some_iff.mp hx
  have hi : i < os.length := (List.getElem?_eq_some_iff.mp hx').1
  have xm := List.mem_of_getElem? hx'
  have x0 := vm (nmo x xm)
  have xn := lQ ndo hx'
  have p1 := af hp (.tup [.int i, .str x])
  refine ⟨p, _, rfl, SqT.of ad, rfl, _, _, rfl, _, _, rfl, rfl, ?_⟩
  have s2 := s1.trans (ao.b a p1)
  have D2 := D1.m p1
  have L2' := p1 _ _ L1
  have R2 := R1.mono p1
  generalize upd H1 p (.tup [.int i, .str x]) = H2 at s2 D2 L2' R2 ⊢
  refine ⟨_, rfl, _, rfl, _, rfl, _, rfl, o, _, rfl, SqL.of (s2 _ _ oa hO), fun t ht => ?_⟩
  rw [iR os i (by omega)]
  have p2 := af ht (.lst ((os.take i).map V.str))
  have ta : t ≠ a := fun e => D2.some (e ▸ ht)
  refine ⟨_, rfl, a, t, n1, os.take i, x, rfl, D2.m p2, ad, ta, by rw [List.length_take]; omega, xn, fun H3 v c ps s3 D3 Rv sm => ?_⟩
  have s03 : aS a H H3 := s2.trans ((ao.b a p2).trans s3)
  have t3 : dD H2 H3 := (ao.tups p2).trans ((D2.m p2).tups s3)
  have L3 : H3 L = some (.lst us) := s3 _ _ La (p2 _ _ L2')
  have R3 := ba (fun d hd v r => by obtain ⟨y, _, rfl⟩ := List.mem_map.mp hd; exact Kd.tupS t3 r) R2
  refine gnm ?_
  dsimp only
  clear t3 R2 R1 p1
  refine ⟨_, rfl, a, _, rfl, D3, fun H4 cell s4 D4 cl0 cl1 => ?_⟩
  have t4 : dD H3 H4 := D3.tups s4
  have s04 := s03.trans s4
  have L4 := s4 _ _ La L3
  have R4 := ba (fun d hd v r => by obtain ⟨y, _, rfl⟩ := List.mem_map.mp hd; exact Kd.tupS t4 r) R3
  have Rv4 := dF t4 (gB c ps) Rv
  refine gnm ?_
  dsimp only
  refine ⟨z1, fun e he => ?_⟩
  have p5 := af he (.tup [.str "whole"])
  have W5 : Rep (upd H4 e (.tup [.str "whole"])) Kd.whole.dv (.ref e) := gl ad
  have s05 := s04.trans (ao.b a p5)
  have D5 := D4.m p5
  have L5 := p5 _ _ L4
  have R5 := R4.mono p5
  have Rv5 := Rv4.mono p5
  generalize upd H4 e (.tup [.str "whole"]) = H5 at W5 s05 D5 L5 R5 Rv5 ⊢
  refine gnm ?_
  dsimp only
  clear R4 Rv4 D4 L4 s04 D3 L3 R3 Rv s03
  refine gA (fun σ' H6 => ∃ (j : Kd) (vj : V) (n6 : Nat), σ' = [some (.ref o), some (.ref a), some (.ref L), some (.int i), some (.str x), some v, some (.int cell), some vj, o8, o9] /\ aS a H H6 /\ Dr H6 a n6 /\ H6 L = some (.lst us) /\ aj H6 (ks.map Kd.dv) us /\ Rep H6 (bU c ps) v /\ Rep H6 j.dv vj /\ jq (os.take (i + 1)) j /\ j.size <= 1 /\ j.All (SmK os)) ?N1 (fun nx => ?_)
  case N1 =>
   rintro _ H6 ⟨j, vj, n6, rfl, s06, D6, L6, R6, Rv6, Rj, st, js, jA⟩
   refine ⟨_, rfl, _, rfl, z3, fun g hg => ?_⟩
   have p7 := af hg (.tup [.str "row", v, vj])
   have R7 : Rep (upd H6 g (.tup [.str "row", v, vj])) (Kd.row c ps j).dv (.ref g) := kN ad (Rv6.mono p7) (Rj.mono p7)
   have s07 := s06.trans (ao.b a p7)
   have D7 := D6.m p7
   have L7 := p7 _ _ L6
   have Rk7 := R6.mono p7
   generalize upd H6 g (.tup [.str "row", v, vj]) = H7 at R7 s07 D7 L7 Rk7 ⊢
   refine gnm ?_
   dsimp only
   refine ⟨_, rfl, _, _, rfl, rfl, ⟨by decide, by decide⟩, _, _, rfl, rfl, (by show (0 : Int) < 4; decide), ?_⟩
   refine gnm ?_
   dsimp only
   generalize cell / 2 % 4 = way
   refine gA (fun σ' H8 => ∃ (k1 : Kd) (v1 : V) (n8 : Nat), σ' = [some (.ref o), some (.ref a), some (.ref L), some (.int i), some (.str x), some v, some (.int cell), some vj, some v1, some (.int way)] /\ aS a H H8 /\ Dr H8 a n8 /\ H8 L = some (.lst us) /\ aj H8 (ks.map Kd.dv) us /\ Rep H8 k1.dv v1 /\ (k1 = .row c ps j \/ (way = 0 /\ ∃ c1 p1, Sm (os.take i) "" c1 p1 /\ k1 = .pair (.place c1 p1) (.row c ps j)))) ?N2 (fun nx2 => ?_)
   case N2 =>
    rintro _ H8 ⟨k1, v1, n8, rfl, s08, D8, L8, R8, Rk1, ho⟩
    refine gA (fun σ' H9 => ∃ (k2 : Kd) (v2 : V) (ks' : List Kd) (us' : List V) (n9 : Nat), σ' = [some (.ref o), some (.ref a), some (.ref L), some (.int i), some (.str x), some v, some (.int cell), some vj, some v2, some (.int way)] /\ aS a H H9 /\ Dr H9 a n9 /\ H9 L = some (.lst us') /\ aj H9 (ks'.map Kd.dv) us' /\ Rep H9 k2.dv v2 /\ lI os (i + 1) (ks' ++ [k2])) ?N3 (fun nx3 => ?_)
    case N3 =>
     rintro _ H9 ⟨k2, v2, ks', us', n9, rfl, s09, D9, L9, R9, Rk2, I9⟩
     have lu : us'.length = ks'.length := by have := R9.length; rwa [List.length_map] at this
     have lk := I9.len
     rw [List.length_append, List.length_singleton] at lk
     refine ⟨_, rfl, .inl ⟨rfl, _, SqL.of L9⟩, _, rfl, L, _, _, rfl, rfl, L9, by rw [sizeLine_eq]; omega, ?_⟩
     have sB := aS.upd H9 L (.lst (us' ++ [v2]))
     refine ⟨_, _, _, _, _, _, _, ks' ++ [k2], us' ++ [v2], n9, rfl, fun g ob hg e => sB g ob (am e hL) (s09 g ob hg e), D9.b sB (Ne.symm La), ad, ?_, I9⟩
     have tB := sB.tups L9
     rw [List.map_append]
     exact aj.append (ba (fun d hd v r => by obtain ⟨y, _, rfl⟩ := List.mem_map.mp hd; exact Kd.tupS tB r) R9) (bg (Kd.tupS tB Rk2))
    have lus : us.length = ks.length := by have := R8.length; rwa [List.length_map] at this
    refine wk (way = 1 /\ ∃ ks0 c0 p0 j0, ks = ks0 ++ [Kd.row c0 p0 j0] /\ j0.word ≠ Str.ofString "row") ?A1 ?A0 (fun qT qF => ?_)
    case A0 =>
     intro H9 p9
     refine aM (nx3 _ _ ⟨k1, v1, ks, us, n8, rfl, s08.trans (ao.b a p9), D8.m p9, p9 _ _ L8, R8.mono p9, Rk1.mono p9, ?_⟩)
     rcases ho with rfl | ⟨_, c1, p1, sm1, rfl⟩
     ·exact sO I1 hx' ndo x0 sm st js jA
     ·exact qy I1 hx' ndo x0 sm st js jA sm1
    case A1 =>
     rintro ⟨w1, ks0, c0, p0, j0, e0, hj0⟩ H9 p9
     subst e0
     have k1e : k1 = .row c ps j := by
      rcases ho with h | ⟨h, _⟩
      ·exact h
      ·omega
     subst k1e
     have R9 := R8.mono p9
     rw [List.map_append] at R9
     obtain ⟨u0, ul, rfl, Ra, Rl⟩ := dl R9
     obtain ⟨al, vs, rfl, hal, hv⟩ := Kd.inv Rl
     obtain ⟨vl, uj, rfl, Rvl, Ruj⟩ := hv
     have L9 := p9 _ _ L8
     refine aO ?_
     refine ⟨_, rfl, 1, rfl, L, _, _, _, rfl, rfl, SqL.of L9, gh _ _, al, _, 0, .str "row", rfl, rfl, SqT.of hal, ak (j := 0) rfl, _, rfl, 1, rfl, L, _, _, _, rfl, rfl, SqL.of L9, gh _ _, al, _, 1, vl, rfl, rfl, SqT.of hal, ak (j := 1) rfl, _, rfl, z3, fun m hm => ?_⟩
     have p10 := af hm (.tup [.str "row", vl, v1])
     have R10 : Rep (upd H9 m (.tup [.str "row", vl, v1])) (Kd.row c0 p0 (.row c ps j)).dv (.ref m) := kN ad (Rvl.mono p10) ((Rk1.mono p9).mono p10)
     have s10 := s08.trans (ao.b a (p9.trans p10))
     have D10 := D8.m (p9.trans p10)
     have L10 := p10 _ _ L9
     have Ra10 := Ra.mono p10
     generalize upd H9 m (.tup [.str "row", vl, v1]) = H10 at R10 s10 D10 L10 Ra10 ⊢
     refine gnm ?_
     dsimp only
     refine ⟨_, rfl, .inl ⟨rfl, _, SqL.of L10⟩, L, _, _, rfl, rfl, L10, eO _ _, ?_⟩
     rw [List.dropLast_concat]
     have sB := aS.upd H10 L (.lst u0)
     have tB := sB.tups L10
     refine nx3 _ _ ⟨.row c0 p0 (.row c ps j), .ref m, ks0, u0, n8, rfl, fun g ob hg e => sB g ob (am e hL) (s10 g ob hg e), D10.b sB (Ne.symm La), ad, ba (fun d hd v r => by obtain ⟨y, _, rfl⟩ := List.mem_map.mp hd; exact Kd.tupS tB r) Ra10, Kd.tupS tB R10, uQ I1 hj0 hx' ndo x0 sm st js jA⟩
    refine ⟨_, rfl, rfl, _, rfl, bn (fun h1 => ?_) (fun _ => qF H8 (ao.refl _))⟩
    have w1 := eqI h1
    refine ⟨_, rfl, Nat.zero_le _, fun b hb => ⟨L, b, us, rfl, rfl, SqL.of (af hb _ _ _ L8), SqL.of ad, _, rfl, ?_⟩⟩
    have p9 := af hb (.lst [])
    by_cases ne : ks = []
    ·have e : us = [] := List.eq_nil_of_length_eq_zero (by rw [lus, ne]; rfl)
     rw [e]
     exact aM (qF _ p9)
    obtain ⟨ks0, kl, e0⟩ := fQ ne
    have R9 := R8.mono p9
    rw [e0, List.map_append] at R9
    obtain ⟨u0, ul, eu, Ra, Rl⟩ := dl R9
    subst eu
    obtain ⟨al, vs, rfl, hal, hv⟩ := Kd.inv Rl
    have L9 := p9 _ _ L8
    have ee : (!(u0 ++ [V.ref al]).isEmpty) = true := by simp
    rw [ee]
    refine aO ⟨_, rfl, 1, rfl, L, _, _, _, rfl, rfl, SqL.of L9, gh _ _, al, _, 0, .str kl.word, rfl, rfl, SqT.of hal, ak (j := 0) rfl, rfl, _, rfl, bn (fun h2 => ?_) (fun _ => qF _ p9)⟩
    have hw : kl.word = Str.ofString "row" := V.str.inj (of_decide_eq_true h2)
    obtain ⟨c0, p0, j0, ek⟩ := rF hw
    subst ek
    obtain ⟨vl, uj, rfl, Rvl, Ruj⟩ := hv
    obtain ⟨bj, vj', rfl, hbj⟩ := vg Ruj
    refine ⟨_, rfl, 1, rfl, L, _, _, _, rfl, rfl, SqL.of L9, gh _ _, al, _, 2, .ref bj, rfl, rfl, SqT.of hal, ak (j := 2) rfl, bj, _, 0, .str j0.word, rfl, rfl, SqT.of hbj, ak (j := 0) rfl, rfl, _, rfl, ?_⟩
    by_cases hj : j0.word = Str.ofString "row"
    ·rw [show (!decide (V.str j0.word = V.str (Str.ofString "row"))) = false by rw [bO, decide_eq_true hj]; rfl]
     exact aM (qF _ p9)
    ·rw [show (!decide (V.str j0.word = V.str (Str.ofString "row"))) = true by rw [bO, decide_eq_false hj]; rfl]
     exact aO (qT ⟨w1, ks0, c0, p0, j0, e0, hj⟩ _ p9)
   refine oT (way = 0 /\ 0 < (i : Int)) ?A1 ?A0 (fun qT qF => ⟨_, rfl, rfl, _, rfl, bn (fun h1 => ⟨_, rfl, _, _, rfl, rfl, _, rfl, bn (fun h2 => ifT (qT ⟨eqI h1, of_decide_eq_true h2⟩)) (fun _ => ifF qF)⟩) (fun _ => qF)⟩)
   case A0 => exact aM (nx2 _ _ ⟨.row c ps j, .ref g, n6, rfl, s07, D7, L7, Rk7, R7, .inl rfl⟩)
   case A1 =>
    rintro ⟨w0, i0⟩
    refine aO ⟨_, rfl, _, rfl, _, rfl, _, rfl, o, _, rfl, SqL.of (s07 _ _ oa hO), fun t' ht' => ?_⟩
    rw [iR os i (by omega)]
    have p8 := af ht' (.lst ((os.take i).map V.str))
    have ta' : t' ≠ a := fun e => D7.some (e ▸ ht')
    refine ⟨a, t', n6, os.take i, _, rfl, D7.m p8, ad, ta', by rw [List.length_take]; omega, fun z => emp (List.mem_of_mem_take z), fun H8 u c1 p1 s8 D8 Ru sm1 => ?_⟩
    have t8 : dD H7 H8 := (ao.tups p8).trans ((D7.m p8).tups s8)
    refine ⟨z2, fun m hm => ⟨_, rfl, z3, fun m2 hm2 => ?_⟩⟩
    have p9 := af hm (.tup [.str "place", u])
    have p10 := af hm2 (.tup [.str "pair", .ref m, .ref g])
    have t10 := t8.trans (ao.tups (p9.trans p10))
    refine gnm (nx2 _ _ ⟨.pair (.place c1 p1) (.row c ps j), .ref m2, _, rfl, s07.trans ((ao.b a p8).trans (s8.trans (ao.b a (p9.trans p10)))), D8.m (p9.trans p10), p10 _ _ (p9 _ _ (s8 _ _ La (p8 _ _ L7))), ba (fun d hd v r => by obtain ⟨y, _, rfl⟩ := List.mem_map.mp hd; exact Kd.tupS t10 r) Rk7, md ad ((jF ad (Ru.mono p9)).mono p10) (Kd.tupS t10 R7), .inr ⟨w0, c1, p1, sm1, rfl⟩⟩)
  refine ⟨_, rfl, _, _, rfl, rfl, (by show (0 : Int) < 2; decide), rfl, _, rfl, bn (fun _ => ?_) (fun _ => nx _ _ ⟨.whole, .ref e, _, rfl, s05, D5, L5, R5, Rv5, W5, trivial, by decide, trivial⟩)⟩
  refine ⟨_, rfl, _, rfl, _, rfl, _, _, rfl, rfl, _, rfl, o, _, rfl, SqL.of (s05 _ _ oa hO), fun t' ht' => ?_⟩
  rw [qm os i (by omega)]
  have p6 := af ht' (.lst ((os.take (i + 1)).map V.str))
  have ta' : t' ≠ a := fun e => D5.some (e ▸ ht')
  refine ⟨a, t', _, os.take (i + 1), _, rfl, D5.m p6, ad, ta', by rw [List.length_take]; omega, fun z => emp (List.mem_of_mem_take z), fun H8 u c1 p1 s8 D8 Ru sm1 => ?_⟩
  have t8 : dD H5 H8 := (ao.tups p6).trans ((D5.m p6).tups s8)
  refine ⟨z2, fun m hm => ?_⟩
  have p9 := af hm (.tup [.str "place", u])
  have t9 := t8.trans (ao.tups p9)
  refine gnm (nx _ _ ⟨.place c1 p1, .ref m, _, rfl, s05.trans ((ao.b a p6).trans (s8.trans (ao.b a p9))), D8.m p9, p9 _ _ (s8 _ _ La (p6 _ _ L5)), ba (fun d hd v r => by obtain ⟨y, _, rfl⟩ := List.mem_map.mp hd; exact Kd.tupS t9 r) R5, dF t9 (gB c ps) Rv5, jF ad (Ru.mono p9), nu sm1, by show 1 <= 1; decide, sm1.k (fun y hy => List.mem_of_mem_take hy) (fun z => absurd rfl z)⟩)
 rintro σ H1 ⟨o3, o4, o5, o6, o7, o8, o9, ks, us, n1, rfl, s1, D1, L1, R1, I1⟩
 have bk : BK os ks := ⟨by have := I1.bnd; rwa [List.length_map, List.take_length] at this, I1.all, by have := I1.len; rw [List.length_map] at this; omega⟩
 have lus : us.length = ks.length := by have := R1.length; rwa [List.length_map] at this
 dsimp only
 refine gA (fun σ' H6 => ∃ (ks : List Kd) (us : List V) (n6 : Nat), σ' = [some (.ref o), some (.ref a), some (.ref L), o3, o4, o5, o6, o7, o8, o9] /\ aS a H H6 /\ Dr H6 a n6 /\ H6 L = some (.lst us) /\ aj H6 (ks.map Kd.dv) us /\ BK os ks) ?N4 (fun nx => ?_)
 case N4 =>
  rintro _ H6 ⟨ks, us, n6, rfl, s6, D6, L6, R6, bk⟩
  exact ⟨_, rfl, q H6 L us ks n6 s6 D6 hL La L6 R6 bk⟩
 refine ⟨_, rfl, L, us, rfl, .inl (SqL.of L1), _, _, rfl, rfl, _, rfl, bn (fun h1 => ?_) (fun _ => aM (nx _ _ ⟨ks, us, n1, rfl, s1, D1, L1, R1, bk⟩))⟩
 have l3 : us.length < 4 := by have : ((us.length : Nat) : Int) < 4 := of_decide_eq_true h1; omega
 refine ⟨_, rfl, a, _, rfl, D1, fun H2 z s2 D2 _ _ => ?_⟩
 have t2 : dD H1 H2 := D1.tups s2
 have R2 := ba (fun d hd v r => by obtain ⟨y, _, rfl⟩ := List.mem_map.mp hd; exact Kd.tupS t2 r) R1
 have s02 := s1.trans s2
 have L2' := s2 _ _ La L1
 refine ⟨_, _, rfl, rfl, (by show (0 : Int) < 3; decide), rfl, _, rfl, bn (fun _ => ?_) (fun _ => nx _ _ ⟨ks, us, _, rfl, s02, D2, L2', R2, bk⟩)⟩
 refine ⟨_, rfl, .inl ⟨rfl, _, SqL.of L2'⟩, _, rfl, _, rfl, a, o, _, os, _, rfl, D2, s02 _ _ oa hO, oa, l4, emp, fun H3 u c ps s3 D3 Ru sm => ?_⟩
 have t3 : dD H2 H3 := D2.tups s3
 have R3 := ba (fun d hd v r => by obtain ⟨y, _, rfl⟩ := List.mem_map.mp hd; exact Kd.tupS t3 r) R2
 refine ⟨z1, fun m1 hm1 => ⟨z1, fun m2 hm2 => ⟨z3, fun m3 hm3 => ⟨z3, fun m4 hm4 => ?_⟩⟩⟩⟩
 have p1 := af hm1 (.tup [.str "whole"])
 have p2 := af hm2 (.tup [.str "whole"])
 have p3 := af hm3 (.tup [.str "pair", .ref m1, .ref m2])
 have p4 := af hm4 (.tup [.str "row", u, .ref m3])
 have p14 := p1.trans (p2.trans (p3.trans p4))
 have Rr : Rep _ (Kd.row c ps (.pair .whole .whole)).dv (.ref m4) := kN ad (Ru.mono p14) (Rep.mono p4 (md ad ((gl (p2 _ _ ad)).mono p3) ((gl ad).mono p3)))
 have L4 := p14 _ _ (s3 _ _ La L2')
 have R4 := R3.mono p14
 have s04 := (s02.trans s3).trans (ao.b a p14)
 have D4 := D3.m p14
 generalize upd _ m4 (.tup [.str "row", u, .ref m3]) = H4 at Rr L4 R4 s04 D4 ⊢
 refine ⟨L, _, _, rfl, rfl, L4, by rw [sizeLine_eq]; omega, ?_⟩
 have sB := aS.upd H4 L (.lst (us ++ [.ref m4]))
 have tB := sB.tups L4
 refine nx _ _ ⟨ks ++ [.row c ps (.pair .whole .whole)], us ++ [.ref m4], _, rfl, fun g ob hg e => sB g ob (am e hL) (s04 g ob hg e), D4.b sB (Ne.symm La), ad, ?_, tQ bk (by omega) sm⟩
 rw [List.map_append]
 exact aj.append (ba (fun d hd v r => by obtain ⟨y, _, rfl⟩ := List.mem_map.mp hd; exact Kd.tupS tB r) R4) (bg (Kd.tupS tB Rr))
end
abbrev jr : Stmt := top 57
theorem uM {k : Nat} {ix : List Nat} {g : TG} {tt : TT} {te : TE} {σ : St} {H1 : Hp} {Q : List V -> Hp -> Prop} {K : PySem.W.Frag} {a : Addr} {xs : List V} (Pv : Nat -> List V -> Hp -> Prop) (h0 : Pv 0 [] H1) (hl : ∀ i zs H, Pv i zs H -> SqL K H a xs)
  (hs : ∀ i zs H x p, xs[i]? = some x -> Pv i zs H -> H p = none -> dQ k ix g tt te σ (.ref p) zs (upd H p (.tup [.int i, x])) (Pv (i + 1))) (hd : ∀ zs H, Pv xs.length zs H -> Q zs H) : rLC (Ite K a) k ix g tt te σ H1 Q := by
 refine oO (n := xs.length) Pv h0 (fun i zs H h p => ?_) (fun zs H p => ?_) (fun i zs H x H' h p y => ?_) hd
 ·exact ⟨xs, xs[i], hl i zs H p, by simp [h]⟩
 ·exact ⟨xs, hl _ zs H p, Nat.le_refl _⟩
 ·obtain ⟨c, x', hb, e1, e2, hx⟩ := y
  subst e1 e2
  exact hs i zs H x' c (hx xs (hl i zs H p)) p hb
theorem dW (xs : List V) (n : Nat) : bc xs (some (n : Int)) none = xs.drop n := by
 unfold bc
 rw [HT.sIx_none, HT.sIx_nat]
 rcases Nat.le_total n xs.length with h | h
 ·rw [Nat.min_eq_left h]
  exact List.take_of_length_le (by rw [List.length_drop]; omega)
 ·rw [Nat.min_eq_right h, List.drop_eq_nil_of_le (Nat.le_refl _), List.drop_eq_nil_of_le h, List.take_nil]
def nmA (xs : List Str) (c : Int) (k : Nat) : Str := xs.getD ((c + (k : Int)) % 5).toNat default
theorem fY {xs : List Str} (nms : Nms xs) (c : Int) (k : Nat) : xs[((c + (k : Int)) % 5).toNat]? = some (nmA xs c k) := by
 obtain ⟨b0, b1⟩ := aY (a := c + (k : Int)) 5 (by decide)
 have hl := nms.len
 have hlt : ((c + (k : Int)) % 5).toNat < xs.length := by omega
 unfold nmA
 rw [List.getElem?_eq_getElem hlt]
 simp [List.getD, hlt]
theorem pB {xs : List Str} (nms : Nms xs) (c : Int) (k : Nat) : nmA xs c k ∈ xs := List.mem_of_getElem? (fY nms c k)
theorem rR {xs : List Str} (nms : Nms xs) (c : Int) {m : Nat} (hm : m <= 5) : ((List.range m).map (nmA xs c)).Nodup := by
 rw [List.nodup_iff_pairwise_ne, List.pairwise_map]
 have : ∀ i j : Nat, i < 5 -> j < 5 -> i ≠ j -> nmA xs c i ≠ nmA xs c j := fun i j hi hj hij e => by
  have h1 := fY nms c i
  have h2 := fY nms c j
  rw [<- e] at h2
  obtain ⟨l1, e1⟩ := List.getElem?_eq_some_iff.mp h1
  obtain ⟨l2, e2⟩ := List.getElem?_eq_some_iff.mp h2
  have := (List.getElem_inj nms.nd).mp (e1.trans e2.symm)
  obtain ⟨b0, b1⟩ := aY (a := c + (i : Int)) 5 (by decide)
  obtain ⟨d0, d1⟩ := aY (a := c + (j : Int)) 5 (by decide)
  omega
 refine List.Pairwise.imp_of_mem (fun {i j} hi hj hij => this i j (by have := List.mem_range.mp hi; omega) (by have := List.mem_range.mp hj; omega) hij) (List.nodup_iff_pairwise_ne.mp List.nodup_range)
structure wJ (xs os : List Str) : Prop where
 nd : os.Nodup
 len : os.length <= 4
 mem : ∀ x ∈ os, x ∈ xs
theorem Kd.All.imp {P Q : Int -> List Pr -> Prop} (h : ∀ c ps, P c ps -> Q c ps) : ∀ {k : Kd}, k.All P -> k.All Q
 | .whole, _ => trivial
 | .place _ _, x => h _ _ x
 | .row _ _ _, x => ⟨h _ _ x.1, Kd.All.imp h x.2⟩
 | .pair _ _, x => ⟨Kd.All.imp h x.1, Kd.All.imp h x.2⟩
theorem sT {xs os ns : List Str} {ks : List Kd} {ps : List Prm} {x : Str} {e : Dv} (nms : Nms xs) (O : wJ xs os) (bk : BK os ks) (hn : ns.Perm os) (hp : ps.map (·.2) = ks) (nd : (ps.map (·.1)).Nodup) (hx : ∀ p ∈ ps, p.1 ∈ xs) (df : fO (.str x) = true) (sx : (Dv.str x).small = true) (ex : exD e = true) (se : e.small = true) (pe : L2.Pl 8 e) : dH (Rw.df x ns ps e).dv = true /\ (Rw.df x ns ps e).dv.small = true /\ (Rw.df x ns ps e).Ok /\ L2.Pl 12 (Rw.df x ns ps e).dv := by
 have lp : ps.length <= 4 := by have := bk.len; rw [<- hp, List.length_map] at this; exact this
 have ln : ns.length <= 4 := by rw [hn.length_eq]; exact O.len
 have mn : ∀ y ∈ ns, nmB y = true := fun y hy => nms.nm y (O.mem y (hn.mem_iff.mp hy))
 have kA : ∀ p ∈ ps, p.2.size <= 4 /\ p.2.All (SmK os) := fun p hp' => bk.all p.2 (by rw [<- hp]; exact List.mem_map_of_mem hp')
 have kS : ∀ p ∈ ps, p.2.All SL := fun p hp' => Kd.All.imp (fun c qs h => oC h.c0 h.c1 h.can (by have := h.len; omega) fun q hq => ⟨nms.nm _ (O.mem _ (h.all q hq).2), (h.all q hq).1⟩) (kA p hp').2
 refine ⟨?_, ?_, ?_, ?_⟩
 ·show dH (.tup [.str "def", .str x, .tup (ns.map Dv.str), .tup (ps.map fD), e]) = true
  rw [pK, df, ex, Bool.and_true]
  have h1 : eR (.tup (ns.map Dv.str)) = true := by
   show ((decide ((0 : Int) <= ((ns.map Dv.str).length : Int)) && decide (((ns.map Dv.str).length : Int) <= 4)) && (ns.map Dv.str).all bJ) = true
   rw [List.length_map, decide_eq_true (by omega), decide_eq_true (by omega), Bool.true_and, Bool.true_and, List.all_map, List.all_eq_true]
   exact fun y hy => mn y hy
  have h2 : dN (.tup (ps.map fD)) = true := by
   show ((decide ((0 : Int) <= ((ps.map fD).length : Int)) && decide (((ps.map fD).length : Int) <= 4)) && (ps.map fD).all eF) = true
   rw [List.length_map, decide_eq_true (by omega), decide_eq_true (by omega), Bool.true_and, Bool.true_and, List.all_map, List.all_eq_true]
   intro p hp'
   show (nmB p.1 && decide (aR p.2.dv <= 12)) = true
   rw [nms.nm _ (hx p hp'), hX (kS p hp'), decide_eq_true (by have := (kA p hp').1; omega)]; rfl
  rw [h1, h2]; rfl
 ·refine bK (fun d hd => ?_) (by show 5 <= 1000; decide)
  rcases List.mem_cons.mp hd with rfl | hd
  ·decide +kernel
  rcases List.mem_cons.mp hd with rfl | hd
  ·exact sx
  rcases List.mem_cons.mp hd with rfl | hd
  ·exact bK (fun d hd => by obtain ⟨y, hy, rfl⟩ := List.mem_map.mp hd; exact eM (mn y hy)) (by rw [List.length_map]; omega)
  rcases List.mem_cons.mp hd with rfl | hd
  ·refine bK (fun d hd => ?_) (by rw [List.length_map]; omega)
   obtain ⟨p, hp', rfl⟩ := List.mem_map.mp hd
   refine bK (fun d hd => ?_) (by show 2 <= 1000; decide)
   rcases List.mem_cons.mp hd with rfl | hd
   ·exact eM (nms.nm _ (hx p hp'))
   ·rw [List.mem_singleton.mp hd]; exact fX (kS p hp')
  ·rw [List.mem_singleton.mp hd]; exact se
 ·refine ⟨hn.nodup_iff.mpr O.nd, nd, ?_, ln, lp, fun p hp' => ⟨by have := (kA p hp').1; omega, Kd.All.imp (fun c qs h => by have := h.len; show qs.length <= 40; omega) (kA p hp').2⟩⟩
  unfold oy
  rw [show ps.flatMap (fun p => p.2.pts) = ks.flatMap Kd.pts by rw [<- hp, List.flatMap_map], jD (os := os) (fun y => hn.mem_iff), bk.bnd]
  exact decide_eq_true hn.length_eq.symm
 ·refine .tup fun d hd => ?_
  rcases List.mem_cons.mp hd with rfl | hd
  ·exact .str
  rcases List.mem_cons.mp hd with rfl | hd
  ·exact .str
  rcases List.mem_cons.mp hd with rfl | hd
  ·exact .tup fun d hd => by obtain ⟨y, hy, rfl⟩ := List.mem_map.mp hd; exact .str
  rcases List.mem_cons.mp hd with rfl | hd
  ·refine .tup fun d hd => ?_
   obtain ⟨p, hp', rfl⟩ := List.mem_map.mp hd
   refine .tup fun d hd => ?_
   rcases List.mem_cons.mp hd with rfl | hd
   ·exact .str
   ·rw [List.mem_singleton.mp hd]; exact p.2.pl.up (by have := (kA p hp').1; omega)
  ·rw [List.mem_singleton.mp hd]; exact pe.up (by decide)
theorem tE (os : List Str) (n : Nat) : (os.drop n ++ os.take n).Perm os := (List.perm_append_comm).trans (by rw [List.take_append_drop])
theorem jB {H : Hp} : ∀ ns : List Str, aj H (ns.map Dv.str) (ns.map V.str)
 | [] => by simp [aj]
 | n :: ns => by simp only [List.map_cons, aj]; exact ⟨_, _, rfl, by simp only [Rep], jB ns⟩
def sP : Sp := fun vs H Q _ => ∃ (x : Str) (a r : Addr) (n : Nat) (xs : List Str), vs = [.str x, .ref a, .ref r] /\ Dr H a n /\ H r = some (.lst (xs.map V.str)) /\ r ≠ a /\ Nms xs /\ fO (.str x) = true /\ (Dv.str x).small = true /\
 ∀ (H' : Hp) (v : V) (ns : List Str) (ps : List Prm) (e : Dv) (n' : Nat), aS a H H' -> Dr H' a n' -> Rep H' (Rw.df x ns ps e).dv v -> dH (Rw.df x ns ps e).dv = true -> (Rw.df x ns ps e).dv.small = true -> (Rw.df x ns ps e).Ok -> L2.Pl 12 (Rw.df x ns ps e).dv -> Q v H'
section
variable {P : Program} {w : World} {K : PySem.W.Frag} {mg : Str -> Option Value} {base : Heap}
theorem tH : aH ["_law_f", "_law_draws_here", "_law_names_here", "_law_cell", "_law_order", "_law_kinds", "_law_params", "_law_told"] ["_law_f", "_law_draws_here", "_law_names_here"] (ai jr) := ⟨rfl, rfl, rfl, by decide +kernel, rfl, by decide +kernel, by decide +kernel⟩
theorem vH {f : Addr} {fd : FuncData} {k : Nat} (F : Fun K "_law_def" "_law_def" jr f fd) (T : Txt K mg) (D_law_next : Def P w K mg base k "_law_next" ["_law_draws_here"] fB) (D_law_bound_kinds : Def P w K mg base k "_law_bound_kinds" ["_law_order", "_law_draws_here"] wF) (D_law_expression : Def P w K mg base k "_law_expression" ["_law_draws_here", "_law_names_here"] kL) : bi P w K mg base CX0 (k + 1) f fd ["_law_f", "_law_draws_here", "_law_names_here"] sP := by
 have nd : (["_law_f", "_law_draws_here", "_law_names_here", "_law_cell", "_law_order", "_law_kinds", "_law_params", "_law_told"] : List Str).Nodup := tH.nd
 refine F.ok tH (fun vs H Q E h => ?_) (fun cdv A outer s H vs Q E hr h => ?_)
 ·obtain ⟨x, a, r, n, xs, rfl, _⟩ := h
  rfl
 obtain ⟨x, a, r, n, xs, rfl, hD, hR, ra, nms, df, sx, q⟩ := h
 refine ⟨_, (@ae _ _ _ _ _ (@aJ _ _ (3) _ _ _ _ nd rfl (Or.inr rfl) (@au _ _ _ _ _ _ _ _ _ _ D_law_next hr rfl (@aa _ _ _ _ _ (@pv _ 1 _ _ (by rfl) (by trivial) (by decide) (by decide)) (@ab _) (by rfl)) (by decide) (by rfl) (by rfl)) (by rfl) (by trivial)) (@ae _ _ _ _ _ (@sk _ _ (["_law_k"]) ([2, 3]) _ _ _ _ _ _ _ _ _ _ _ (4) _ nd rfl rfl (@fb _ _ _ _ _ _ rfl T.range (@aa _ _ _ _ _ (@aA _ _ _ _ _ _ _ _ aW (@aA _ _ _ _ _ _ _ _ cy (@pv _ 3 _ _ (by rfl) (by trivial) (by decide) (by decide)) (@ac _ _ _ _)) (@ac _ _ _ _)) (@ab _) (by rfl)) (by rfl)) (.of rfl) rfl (fun _ _ _ => aK (i := 0) (dG (l := ["_law_k", "_law_names_here", "_law_cell"]) ((by decide +kernel)) rfl) rfl (Or.inl rfl)) (cz (by decide)) (fun _ _ _ => (@cx _)) (fun _ _ _ => (@ay _ _ _ _ _ _ _ (lL K rfl) (@pv _ 1 _ _ (by rfl) (by trivial) (by decide) (by decide)) (@aA _ _ _ _ _ _ _ _ aW (@aA _ _ _ _ _ _ _ _ cV (@pv _ 2 _ _ (by rfl) (by trivial) (by decide) (by decide)) (@pv _ 0 _ _ (by rfl) (by trivial) (by decide) (by decide))) (@ac _ _ _ _)) (fun _ _ => rfl))) (by rfl) (by intro _; rfl)) (@ae _ _ _ _ _ (@aN _ _ _ _ _ _ _ _ (@ap _ _ _ _ _ _ _ _ aU (@aA _ _ _ _ _ _ _ _ aW (@aA _ _ _ _ _ _ _ _ cy (@pv _ 3 _ _ (by rfl) (by trivial) (by decide) (by decide)) (@ac _ _ _ _)) (@ac _ _ _ _)) (@ac _ _ _ _) (aq _)) (@ah _ _ _ (@bt _ _ _ _ (@eP _ _ _ _ _ _ _ _ _ PySem.F.plainAttrs_list PySem.F.slot_list_reverse PySem.F.type_list_reverse nW (@pv _ 4 _ _ (by rfl) (by trivial) (by decide) (by decide)) (by rfl) (by rfl)) (by rfl))) (@av _)) (@ae _ _ _ _ _ (@aJ _ _ (5) _ _ _ _ nd rfl (Or.inl rfl) (@au _ _ _ _ _ _ _ _ _ _ D_law_bound_kinds hr rfl (@aa _ _ _ _ _ (@pv _ 4 _ _ (by rfl) (by trivial) (by decide) (by decide)) (@aa _ _ _ _ _ (@pv _ 1 _ _ (by rfl) (by trivial) (by decide) (by decide)) (@ab _) (by rfl)) (by rfl)) (by decide) (by rfl) (by rfl)) (by rfl) (by trivial)) (@ae _ _ _ _ _ (@sk _ _ (["_law_k", "_law_kind"]) ([2, 3]) _ _ _ _ _ _ _ _ _ _ _ (6) _ nd rfl rfl (@eZ _ _ _ _ _ _ _ _ rfl T.enumerate (@aa _ _ _ _ _ (@pv _ 5 _ _ (by rfl) (by trivial) (by decide) (by decide)) (@ab _) (by rfl)) (by rfl)) (.of rfl) rfl (fun _ _ _ => cW rfl (@aT _ _ _ _ _ (@aK _ _ (0) _ (dG (l := ["_law_k", "_law_kind", "_law_names_here", "_law_cell"]) ((by decide +kernel)) rfl) rfl (Or.inl rfl) (by trivial)) (@aT _ _ _ _ _ (@aK _ _ (1) _ (dG (l := ["_law_k", "_law_kind", "_law_names_here", "_law_cell"]) ((by decide +kernel)) rfl) rfl (Or.inl rfl) (by trivial)) (@cc _) (by rfl)) (by rfl))) (ou (by decide) (by decide)) (fun _ _ _ => (@cx _)) (fun _ _ _ => (@aX _ _ _ _ _ (@aa _ _ _ _ _ (@ay _ _ _ _ _ _ _ (lL K rfl) (@pv _ 2 _ _ (by rfl) (by trivial) (by decide) (by decide)) (@aA _ _ _ _ _ _ _ _ aW (@aA _ _ _ _ _ _ _ _ cV (@aA _ _ _ _ _ _ _ _ cy (@pv _ 3 _ _ (by rfl) (by trivial) (by decide) (by decide)) (@ac _ _ _ _)) (@pv _ 0 _ _ (by rfl) (by trivial) (by decide) (by decide))) (@ac _ _ _ _)) (fun _ _ => rfl)) (@aa _ _ _ _ _ (@pv _ 1 _ _ (by rfl) (by trivial) (by decide) (by decide)) (@ab _) (by rfl)) (by rfl)))) (by rfl) (by intro _; rfl)) (@ae _ _ _ _ _ (@aJ _ _ (7) _ _ _ _ nd rfl (Or.inl rfl) (@aA _ _ _ _ _ _ _ _ oz (@bq _ _ _ _ _ _ _ _ _ _ ce (@pv _ 4 _ _ (by rfl) (by trivial) (by decide) (by decide)) (@bw _ _ _ (@aA _ _ _ _ _ _ _ _ aW (@aA _ _ _ _ _ _ _ _ cy (@pv _ 3 _ _ (by rfl) (by trivial) (by decide) (by decide)) (@ac _ _ _ _)) (@ac _ _ _ _))) (@bI _)) (@bq _ _ _ _ _ _ _ _ _ _ ce (@pv _ 4 _ _ (by rfl) (by trivial) (by decide) (by decide)) (@bI _) (@bw _ _ _ (@aA _ _ _ _ _ _ _ _ aW (@aA _ _ _ _ _ _ _ _ cy (@pv _ 3 _ _ (by rfl) (by trivial) (by decide) (by decide)) (@ac _ _ _ _)) (@ac _ _ _ _))))) (by rfl) (by trivial)) (@ah _ _ _ (@ar _ _ _ _ (@aX _ _ _ _ _ (@aa _ _ _ _ _ (@aD _ _ _ _) (@aa _ _ _ _ _ (@pv _ 0 _ _ (by rfl) (by trivial) (by decide) (by decide)) (@aa _ _ _ _ _ (@dw _ _ _ _ _ _ _ _ _ dS rfl T.tuple (by decide +kernel) (@aa _ _ _ _ _ (@pv _ 7 _ _ (by rfl) (by trivial) (by decide) (by decide)) (@ab _) (by rfl)) (by decide) (by decide) (by rfl) (by rfl)) (@aa _ _ _ _ _ (@dw _ _ _ _ _ _ _ _ _ dS rfl T.tuple (by decide +kernel) (@aa _ _ _ _ _ (@pv _ 6 _ _ (by rfl) (by trivial) (by decide) (by decide)) (@ab _) (by rfl)) (by decide) (by decide) (by rfl) (by rfl)) (@aa _ _ _ _ _ (@au _ _ _ _ _ _ _ _ _ _ D_law_expression hr rfl (@aa _ _ _ _ _ (@pv _ 1 _ _ (by rfl) (by trivial) (by decide) (by decide)) (@aa _ _ _ _ _ (@pv _ 2 _ _ (by rfl) (by trivial) (by decide) (by decide)) (@ab _) (by rfl)) (by rfl)) (by decide) (by rfl) (by rfl)) (@ab _) (by rfl)) (by rfl)) (by rfl)) (by rfl)) (by rfl))))))))))), ?_⟩
 refine ⟨_, rfl, a, n, rfl, hD, fun H1 c s1 D1 c0 c1 => ?_⟩
 have r1 := s1 _ _ ra hR
 refine gnm ?_
 dsimp only
 obtain ⟨m0, m1⟩ := aY (a := c / 5) 5 (by decide)
 refine ⟨_, rfl, _, _, rfl, rfl, ⟨by decide, by decide⟩, _, _, rfl, rfl, (by show (0 : Int) < 5; decide), c / 5 % 5, rfl, by omega, by omega, jP (F := fun k => V.str (nmA xs c k)) (n := (c / 5 % 5).toNat) (fun i ys hi ly => cn ?_) ?_⟩
 ·refine ⟨_, rfl, _, rfl, _, rfl, _, _, rfl, rfl, _, _, rfl, rfl, (by show (0 : Int) < 5; decide), r, _, _, .str (nmA xs c i), rfl, rfl, SqL.of r1, ?_, by rw [ly, sizeLine_eq]; omega, rfl, rfl⟩
  obtain ⟨b0, b1⟩ := aY (a := c + (i : Int)) 5 (by decide)
  have := ak (show (xs.map V.str)[((c + (i : Int)) % 5).toNat]? = some (V.str (nmA xs c i)) by rw [List.getElem?_map, fY nms c i]; rfl)
  rw [show ((((c + (i : Int)) % 5).toNat : Nat) : Int) = (c + (i : Int)) % 5 by omega] at this
  simpa using this
 intro o ho
 have O0 : wJ xs ((List.range (c / 5 % 5).toNat).map (nmA xs c)) := ⟨rR nms c (by omega), by rw [List.length_map, List.length_range]; omega, fun y hy => by obtain ⟨j, _, rfl⟩ := List.mem_map.mp hy; exact pB nms c j⟩
 have o2 : upd H1 o (.lst ((List.range (c / 5 % 5).toNat).map fun k => V.str (nmA xs c k))) o = some (.lst (((List.range (c / 5 % 5).toNat).map (nmA xs c)).map V.str)) := by rw [ad, List.map_map]; rfl
 have p2 := af ho (.lst ((List.range (c / 5 % 5).toNat).map fun k => V.str (nmA xs c k)))
 have oa : o ≠ a := fun e => D1.some (e ▸ ho)
 have hO : H o = none := by
  cases e : H o with
  | none => rfl
  | some u => rw [s1 _ _ oa e] at ho; cases ho
 have s2 := s1.trans (ao.b a p2)
 have D2 := D1.m p2
 generalize (List.range (c / 5 % 5).toNat).map (nmA xs c) = os0 at O0 o2
 generalize upd H1 o (.lst ((List.range (c / 5 % 5).toNat).map fun k => V.str (nmA xs c k))) = H2 at o2 s2 D2 p2 ⊢
 refine gnm ?_
 dsimp only
 refine gA (fun σ' H3 => ∃ os : List Str, σ' = [some (.str x), some (.ref a), some (.ref r), some (.int c), some (.ref o), none, none, none] /\ aS a H H3 /\ Dr H3 a (n - 1) /\ H3 o = some (.lst (os.map V.str)) /\ wJ xs os) ?N1 (fun nx => ?_)
 case N1 =>
  rintro _ H3 ⟨os, rfl, s3, D3, o3, O⟩
  have r3 := s3 _ _ ra hR
  refine ⟨_, rfl, _, rfl, o, a, _, os, rfl, D3, o3, oa, O.nd, O.len, fun y hy => nms.nm y (O.mem y hy), fun H4 l us ks n4 s4 D4 hl la Hl Rk bk => ?_⟩
  have s04 := s3.trans s4
  have r4 := s04 _ _ ra hR
  have o4 := s4 _ _ oa o3
  have lus : us.length = ks.length := by have := Rk.length; rwa [List.length_map] at this
  have lk := bk.len
  refine gnm ?_
  dsimp only
  refine ⟨_, rfl, l, rfl, ⟨us, SqL.of Hl⟩, uM (xs := us) (fun i zs H' => ao H4 H' /\ ∃ pl : List Prm, zs.length = i /\ aj H' (pl.map fD) zs /\ pl.map (·.2) = ks.take i /\ pl.map (·.1) = (List.range i).map (nmA xs (c / 50))) ⟨ao.refl _, [], rfl, by simp [aj], rfl, rfl⟩ (fun i zs H' p => SqL.of (p.1 _ _ Hl)) ?L1 ?_⟩
  case L1 =>
   rintro i zs H5 u p hu ⟨s5, pl, lz, Rz, e1, e2⟩ hp
   obtain ⟨kd, hkd, Ru⟩ := dJ Rk hu
   have hi : i < us.length := (List.getElem?_eq_some_iff.mp hu).1
   have p6 := af hp (.tup [.int i, u])
   have s6 := s5.trans p6
   refine iq ad ⟨_, rfl, _, rfl, _, _, rfl, rfl, ⟨by decide, by decide⟩, _, rfl, _, _, rfl, rfl, _, _, rfl, rfl, (by show (0 : Int) < 5; decide), r, _, _, .str (nmA xs (c / 50) i), rfl, rfl, SqL.of (s6 _ _ r4), ?_, _, rfl, z2, fun t ht => ⟨by rw [lz, sizeLine_eq]; omega, ?_⟩⟩
   ·obtain ⟨b0, b1⟩ := aY (a := c / 50 + (i : Int)) 5 (by decide)
    have := ak (show (xs.map V.str)[((c / 50 + (i : Int)) % 5).toNat]? = some (V.str (nmA xs (c / 50) i)) by rw [List.getElem?_map, fY nms (c / 50) i]; rfl)
    rwa [show ((((c / 50 + (i : Int)) % 5).toNat : Nat) : Int) = (c / 50 + (i : Int)) % 5 by omega] at this
   ·have p7 := af ht (.tup [.str (nmA xs (c / 50) i), u])
    refine ⟨s6.trans p7, pl ++ [(nmA xs (c / 50) i, kd)], by rw [List.length_append, lz]; rfl, ?_, ?_, ?_⟩
    ·rw [List.map_append]
     refine aj.append (Rz.mono (p6.trans p7)) (bg (show Rep _ (.tup [.str (nmA xs (c / 50) i), kd.dv]) (.ref t) from ?_))
     rw [Rep]
     exact ⟨t, _, rfl, ad, by simp only [aj]; exact ⟨_, _, rfl, by simp only [Rep], _, _, rfl, (Ru.mono s6).mono p7, rfl⟩⟩
    ·rw [List.map_append, e1, List.take_add_one, hkd]; rfl
    ·rw [List.map_append, e2, List.range_succ, List.map_append]; rfl
  rintro zs H5 ⟨s5, ps, lz, Rz, e1, e2⟩ pp hpp
  rw [lus, List.take_length] at e1
  rw [lus] at e2
  have p6 := af hpp (.lst zs)
  have h6 : upd H5 pp (.lst zs) pp = some (.lst zs) := ad
  have s46 := s5.trans p6
  have R6 := Rz.mono p6
  have pa : pp ≠ a := fun e => (D4.m s5).some (e ▸ hpp)
  generalize upd H5 pp (.lst zs) = H6 at h6 s46 R6 p6 ⊢
  refine gnm ?_
  dsimp only
  obtain ⟨g0, g1⟩ := aY (a := c / 250) 5 (by decide)
  obtain ⟨gn, hgn⟩ : ∃ gn : Nat, c / 250 % 5 = (gn : Int) := ⟨(c / 250 % 5).toNat, by omega⟩
  refine ⟨_, rfl, _, rfl, _, _, rfl, rfl, ⟨by decide, by decide⟩, _, _, rfl, rfl, (by show (0 : Int) < 5; decide), _, rfl, o, _, rfl, SqL.of (s46 _ _ o4), fun t1 ht1 => ?_⟩
  have p7 := af ht1 (.lst (bc (os.map V.str) (some (c / 250 % 5)) none))
  refine ⟨_, rfl, _, rfl, _, _, rfl, rfl, ⟨by decide, by decide⟩, _, _, rfl, rfl, (by show (0 : Int) < 5; decide), _, rfl, o, _, rfl, SqL.of (p7 _ _ (s46 _ _ o4)), fun t2 ht2 => ?_⟩
  have p8 := af ht2 (.lst (bc (os.map V.str) none (some (c / 250 % 5))))
  refine ⟨t1, t2, _, _, rfl, rfl, p8 _ _ ad, ad, ?_, fun t3 ht3 => ?_⟩
  ·rw [hgn, dW, fc, List.length_drop, List.length_take, List.length_map, sizeLine_eq]; have := O.len; omega
  have p9 := af ht3 (.lst (bc (os.map V.str) (some (c / 250 % 5)) none ++ bc (os.map V.str) none (some (c / 250 % 5))))
  have e9 : bc (os.map V.str) (some (c / 250 % 5)) none ++ bc (os.map V.str) none (some (c / 250 % 5)) = (os.drop gn ++ os.take gn).map V.str := by rw [hgn, dW, fc, List.map_append, List.map_drop, List.map_take]
  have h9 := ad (H := upd (upd H6 t1 (.lst (bc (os.map V.str) (some (c / 250 % 5)) none))) t2 (.lst (bc (os.map V.str) none (some (c / 250 % 5))))) (a := t3) (o := .lst (bc (os.map V.str) (some (c / 250 % 5)) none ++ bc (os.map V.str) none (some (c / 250 % 5))))
  have s69 := p7.trans (p8.trans p9)
  rw [e9] at h9 s69
  rw [e9]
  generalize upd _ t3 _ = H9 at h9 s69 ⊢
  refine gnm ?_
  dsimp only
  have s49 := s46.trans s69
  refine ⟨_, rfl, _, rfl, t3, _, rfl, .inl ⟨SqL.of h9, fun u1 hu1 => ?_⟩⟩
  have p10 := af hu1 (.tup ((os.drop gn ++ os.take gn).map V.str))
  refine ⟨_, rfl, pp, _, rfl, .inl ⟨SqL.of (p10 _ _ (s69 _ _ h6)), fun u2 hu2 => ?_⟩⟩
  have p11 := af hu2 (.tup zs)
  have q1 := p11 _ _ (ad (H := H9) (a := u1) (o := .tup ((os.drop gn ++ os.take gn).map V.str)))
  have q2 := ad (H := upd H9 u1 (.tup ((os.drop gn ++ os.take gn).map V.str))) (a := u2) (o := .tup zs)
  have s411 := s49.trans (p10.trans p11)
  have R11 := R6.mono (s69.trans (p10.trans p11))
  generalize upd (upd H9 u1 (.tup ((os.drop gn ++ os.take gn).map V.str))) u2 (.tup zs) = H11 at q1 q2 s411 R11 ⊢
  refine ⟨_, rfl, _, rfl, a, r, n4, xs, rfl, D4.m s411, s411 _ _ r4, ra, nms, fun H12 ve e s12 D12 Re ee se pe => ⟨by rw [sizeLine_eq]; show 5 <= 16777216; decide, fun w0 hw0 => ?_⟩⟩
  have t12 := (D4.m s411).tups s12
  have p13 := af hw0 (.tup [.str "def", .str x, .ref u1, .ref u2, ve])
  have pse : ∀ p ∈ ps, p.1 ∈ xs := fun p hp => by
   have : p.1 ∈ ps.map (·.1) := List.mem_map_of_mem hp
   rw [e2] at this
   obtain ⟨j, _, hj⟩ := List.mem_map.mp this
   rw [<- hj]; exact pB nms _ j
  obtain ⟨g1', g2', g3', g4'⟩ := sT (ns := os.drop gn ++ os.take gn) nms O bk (tE os gn) e1 (by rw [e2]; exact rR nms _ (by omega)) pse df sx ee se pe
  refine q _ _ _ ps e _ ((s04.trans (ao.b a s411)).trans (s12.trans (ao.b a p13))) (D12.m p13) ?_ g1' g2' g3' g4'
  show Rep _ (.tup [.str "def", .str x, .tup ((os.drop gn ++ os.take gn).map Dv.str), .tup (ps.map fD), e]) (.ref w0)
  rw [Rep]
  refine ⟨w0, _, rfl, ad, ?_⟩
  have h1 : Rep (upd H12 w0 (.tup [.str "def", .str x, .ref u1, .ref u2, ve])) (.tup ((os.drop gn ++ os.take gn).map Dv.str)) (.ref u1) := by
   rw [Rep]; exact ⟨u1, _, rfl, p13 _ _ (t12 _ _ q1), jB _⟩
  have h2 : Rep (upd H12 w0 (.tup [.str "def", .str x, .ref u1, .ref u2, ve])) (.tup (ps.map fD)) (.ref u2) := by
   rw [Rep]
   refine ⟨u2, zs, rfl, p13 _ _ (t12 _ _ q2), ?_⟩
   refine ba (fun d hd v rr => ?_) R11
   obtain ⟨p, hp, rfl⟩ := List.mem_map.mp hd
   exact dF (t12.trans (ao.tups p13)) (n := p.2.size + 4) (.tup fun d hd => by
    rcases List.mem_cons.mp hd with rfl | hd
    ·exact .str
    ·rw [List.mem_singleton.mp hd]; exact p.2.pl) rr
  simp only [aj]
  exact ⟨_, _, rfl, by simp only [Rep], _, _, rfl, by simp only [Rep], _, _, rfl, h1, _, _, rfl, h2, _, _, rfl, Re.mono p13, rfl⟩
 refine ⟨_, rfl, _, _, rfl, rfl, ⟨by decide, by decide⟩, _, _, rfl, rfl, (by show (0 : Int) < 2; decide), rfl, _, rfl, bn (fun _ => ?_) (fun _ => nx _ _ ⟨os0, rfl, s2, D2, o2, O0⟩)⟩
 refine ⟨_, rfl, .inl ⟨rfl, _, SqL.of o2⟩, o, _, rfl, rfl, o2, ?_⟩
 have sB := aS.upd H2 o (.lst (os0.map V.str).reverse)
 refine nx _ _ ⟨os0.reverse, rfl, fun g ob hg e => sB g ob (am e hO) (s2 g ob hg e), D2.b sB (Ne.symm oa), by rw [ad, List.map_reverse], ⟨(List.reverse_perm os0).nodup_iff.mpr O0.nd, by rw [List.length_reverse]; exact O0.len, fun y hy => O0.mem y (List.mem_reverse.mp hy)⟩⟩
end
abbrev dj : Stmt := top 58
def fN (i : Nat) : Str := Str.ofString "f" ++ ⟨#[97 + i]⟩
theorem wR : ∀ i, i < 12 -> fO (.str (fN i)) = true /\ (Dv.str (fN i)).small = true := by decide +kernel
theorem vL : ∀ i, i < 12 -> ∀ j, j < 12 -> fN i = fN j -> i = j := by decide +kernel
theorem xW {i : Nat} (h1 : i < 12) : atI (Str.ofString "abcdefghijkl").cps.toList ((i : Int) % 12) = some (97 + i) := by
 have h : ∀ j, j < 12 -> (Str.ofString "abcdefghijkl").cps.toList[j]? = some (97 + j) := by decide +kernel
 rw [Int.emod_eq_of_lt (by omega) (by omega)]
 exact ak (h i h1)
structure jd (i : Nat) (rs : List Rw) : Prop where
 len : rs.length = i
 row : ∀ r ∈ rs, dH r.dv = true /\ r.dv.small = true
 ok : ∀ r ∈ rs, r.Ok
 pl : ∀ r ∈ rs, L2.Pl 12 r.dv
 nd : (rs.flatMap Rw.f?).Nodup
 fs : ∀ x ∈ rs.flatMap Rw.f?, ∃ j, j < i /\ x = fN j
theorem jd.ask {i : Nat} {rs : List Rw} {e : Dv} (I : jd i rs) (ex : exD e = true) (se : e.small = true) (pe : L2.Pl 8 e) : jd (i + 1) (rs ++ [.ask e]) := by
 have ef : (rs ++ [Rw.ask e]).flatMap Rw.f? = rs.flatMap Rw.f? := by rw [List.flatMap_append]; simp [Rw.f?]
 refine ⟨by rw [List.length_append, I.len]; rfl, fun r hr => ?_, fun r hr => ?_, fun r hr => ?_, by rw [ef]; exact I.nd, fun x hx => by rw [ef] at hx; obtain ⟨j, hj, e⟩ := I.fs x hx; exact ⟨j, by omega, e⟩⟩
 ·rcases List.mem_append.mp hr with h | h
  ·exact I.row r h
  ·rw [List.mem_singleton.mp h]
   exact ⟨by show dH (.tup [.str "ask", e]) = true; rw [oM]; exact ex, bK (fun d hd => by
    rcases List.mem_cons.mp hd with rfl | hd
    ·decide +kernel
    ·rw [List.mem_singleton.mp hd]; exact se) (by show 2 <= 1000; decide)⟩
 ·rcases List.mem_append.mp hr with h | h
  ·exact I.ok r h
  ·rw [List.mem_singleton.mp h]; exact trivial
 ·rcases List.mem_append.mp hr with h | h
  ·exact I.pl r h
  ·rw [List.mem_singleton.mp h]
   exact .tup fun d hd => by
    rcases List.mem_cons.mp hd with rfl | hd
    ·exact .str
    ·rw [List.mem_singleton.mp hd]; exact pe.up (by decide)
theorem jd.df {i : Nat} {rs : List Rw} {ns : List Str} {ps : List Prm} {e : Dv} (I : jd i rs) (hi : i < 12) (h1 : dH (Rw.df (fN i) ns ps e).dv = true) (h2 : (Rw.df (fN i) ns ps e).dv.small = true) (h3 : (Rw.df (fN i) ns ps e).Ok) (h4 : L2.Pl 12 (Rw.df (fN i) ns ps e).dv) : jd (i + 1) (rs ++ [.df (fN i) ns ps e]) := by
 have ef : (rs ++ [Rw.df (fN i) ns ps e]).flatMap Rw.f? = rs.flatMap Rw.f? ++ [fN i] := by rw [List.flatMap_append]; simp [Rw.f?]
 refine ⟨by rw [List.length_append, I.len]; rfl, fun r hr => ?_, fun r hr => ?_, fun r hr => ?_, ?_, fun x hx => ?_⟩
 ·rcases List.mem_append.mp hr with h | h
  ·exact I.row r h
  ·rw [List.mem_singleton.mp h]; exact ⟨h1, h2⟩
 ·rcases List.mem_append.mp hr with h | h
  ·exact I.ok r h
  ·rw [List.mem_singleton.mp h]; exact h3
 ·rcases List.mem_append.mp hr with h | h
  ·exact I.pl r h
  ·rw [List.mem_singleton.mp h]; exact h4
 ·rw [ef]
  refine List.nodup_append.mpr ⟨I.nd, by simp, fun x hx y hy e => ?_⟩
  rw [List.mem_singleton.mp hy] at e
  obtain ⟨j, hj, e2⟩ := I.fs x hx
  have := vL j (by omega) i hi (e2.symm.trans e)
  omega
 ·rw [ef] at hx
  rcases List.mem_append.mp hx with h | h
  ·obtain ⟨j, hj, e⟩ := I.fs x h; exact ⟨j, by omega, e⟩
  ·exact ⟨i, by omega, List.mem_singleton.mp h⟩
theorem jd.pg {i : Nat} {rs : List Rw} (I : jd i rs) (h : i <= 12) : kz rs := ⟨by rw [I.len]; exact h, I.row, I.ok, I.nd⟩
theorem pN (ns : List Int) (lo hi : Option Int) : ∃ ms : List Int, bc (ns.map V.int) lo hi = ms.map V.int /\ ms.length <= ns.length := by
 unfold bc
 rw [List.length_map]
 refine ⟨(ns.drop (HT.sIx ns.length 0 lo)).take (HT.sIx ns.length ns.length hi - HT.sIx ns.length 0 lo), by rw [List.map_take, List.map_drop], ?_⟩
 rw [List.length_take, List.length_drop]
 omega
theorem rs6 (n : Nat) (h : n <= 63) : (Builtin.Range.rangeSize 0 (if (n : Int) > 1 then (n : Int) else 1) 6).toNat <= 12 := by
 unfold Builtin.Range.rangeSize
 split <;> (repeat' split) <;> omega
def oq (K : PySem.W.Frag) : Sp := fun vs H Q _ => ∃ (sc r : Addr) (ns : List Int) (xs : List Str), vs = [.ref sc, .ref r] /\ SqL K H sc (ns.map V.int) /\ ns.length <= 63 /\ H r = some (.lst (xs.map V.str)) /\ Nms xs /\
 ∀ (H' : Hp) (l : Addr) (us : List V) (rs : List Rw), ao H H' -> H l = none -> H' l = some (.lst us) -> aj H' (rs.map Rw.dv) us -> kz rs -> (∀ r ∈ rs, L2.Pl 12 r.dv) -> Q (.ref l) H'
section
variable {P : Program} {w : World} {K : PySem.W.Frag} {mg : Str -> Option Value} {base : Heap}
theorem iK : aH ["_law_script", "_law_names_here", "_law_rows", "_law_begin", "_law_draws_here", "_law_way"] ["_law_script", "_law_names_here"] (ai dj) := ⟨rfl, rfl, rfl, by decide +kernel, rfl, by decide +kernel, by decide +kernel⟩
theorem nZ {f : Addr} {fd : FuncData} {k : Nat} (F : Fun K "_law_program" "_law_program" dj f fd) (T : Txt K mg) (D_law_draws : Def P w K mg base k "_law_draws" ["_law_cells", "_law_many"] (ia K)) (D_law_next : Def P w K mg base k "_law_next" ["_law_draws_here"] fB) (D_law_expression : Def P w K mg base k "_law_expression" ["_law_draws_here", "_law_names_here"] kL) (D_law_def : Def P w K mg base k "_law_def" ["_law_f", "_law_draws_here", "_law_names_here"] sP) : bi P w K mg base CX0 (k + 1) f fd ["_law_script", "_law_names_here"] (oq K) := by
 have nd : (["_law_script", "_law_names_here", "_law_rows", "_law_begin", "_law_draws_here", "_law_way"] : List Str).Nodup := iK.nd
 refine F.ok iK (fun vs H Q E h => ?_) (fun cdv A outer s H vs Q E hr h => ?_)
 ·obtain ⟨sc, r, ns, xs, rfl, _⟩ := h
  rfl
 obtain ⟨sc, r, ns, xs, rfl, hS, h63, hR, nms, q⟩ := h
 refine ⟨_, (@ae _ _ _ _ _ (@aJ _ _ (2) _ _ _ _ nd rfl (Or.inl rfl) (@bp _ _ _ _ (@ab _)) (by rfl) (by trivial)) (@ae _ _ _ _ _ (@cB _ _ _ _ _ _ _ _ PassesOwn.never rfl (@qB _ _ _ _ _ _ _ _ rfl T.range (@aa _ _ _ _ _ (@ac _ _ _ _) (@aa _ _ _ _ _ (@ax _ _ _ _ _ _ _ _ _ (pY rfl) rfl T.max (by decide +kernel) (@aa _ _ _ _ _ (@ac _ _ _ _) (@aa _ _ _ _ _ (@ax _ _ _ _ _ _ _ _ _ aI rfl T.len (by decide +kernel) (@aa _ _ _ _ _ (@pv _ 0 _ _ (by rfl) (by trivial) (by decide) (by decide)) (@ab _) (by rfl)) (by decide) (by decide) (by rfl) (by rfl)) (@ab _) (by rfl)) (by rfl)) (by decide) (by decide) (by rfl) (by rfl)) (@aa _ _ _ _ _ (@ac _ _ _ _) (@ab _) (by rfl)) (by rfl)) (by rfl)) (by rfl) (by rfl)) (@aK _ _ (3) _ nd rfl (Or.inl rfl) (by trivial)) (@ae _ _ _ _ _ (@aJ _ _ (4) _ _ _ _ nd rfl (Or.inl rfl) (@au _ _ _ _ _ _ _ _ _ _ D_law_draws hr rfl (@aa _ _ _ _ _ (@bq _ _ _ _ _ _ _ _ _ _ ce (@aA _ _ _ _ _ _ _ _ oz (@bq _ _ _ _ _ _ _ _ _ _ ce (@pv _ 0 _ _ (by rfl) (by trivial) (by decide) (by decide)) (@bw _ _ _ (@pv _ 3 _ _ (by rfl) (by trivial) (by decide) (by decide))) (@bw _ _ _ (@aA _ _ _ _ _ _ _ _ cV (@pv _ 3 _ _ (by rfl) (by trivial) (by decide) (by decide)) (@ac _ _ _ _)))) (@aA _ _ _ _ _ _ _ _ vI (@bp _ _ _ _ (@aa _ _ _ _ _ (@ac _ _ _ _) (@ab _) (by rfl))) (@ac _ _ _ _))) (@bI _) (@bw _ _ _ (@ac _ _ _ _))) (@aa _ _ _ _ _ (@ac _ _ _ _) (@ab _) (by rfl)) (by rfl)) (by decide) (by rfl) (by rfl)) (by rfl) (by trivial)) (@ae _ _ _ _ _ (@aJ _ _ (5) _ _ _ _ nd rfl (Or.inl rfl) (@au _ _ _ _ _ _ _ _ _ _ D_law_next hr rfl (@aa _ _ _ _ _ (@pv _ 4 _ _ (by rfl) (by trivial) (by decide) (by decide)) (@ab _) (by rfl)) (by decide) (by rfl) (by rfl)) (by rfl) (by trivial)) (@ah _ _ _ (@aN _ _ _ _ _ _ _ _ (@ap _ _ _ _ _ _ _ _ aU (@aA _ _ _ _ _ _ _ _ aW (@pv _ 5 _ _ (by rfl) (by trivial) (by decide) (by decide)) (@ac _ _ _ _)) (@ac _ _ _ _) (aq _)) (@ah _ _ _ (@bt _ _ _ _ (@dX _ _ _ _ _ _ _ _ _ _ _ _ PySem.F.plainAttrs_list PySem.F.slot_list_append PySem.F.type_list_append bZ (@pv _ 2 _ _ (by rfl) (by trivial) (by decide) (by decide)) (@aa _ _ _ _ _ (@aX _ _ _ _ _ (@aa _ _ _ _ _ (@aD _ _ _ _) (@aa _ _ _ _ _ (@au _ _ _ _ _ _ _ _ _ _ D_law_expression hr rfl (@aa _ _ _ _ _ (@pv _ 4 _ _ (by rfl) (by trivial) (by decide) (by decide)) (@aa _ _ _ _ _ (@pv _ 1 _ _ (by rfl) (by trivial) (by decide) (by decide)) (@ab _) (by rfl)) (by rfl)) (by decide) (by rfl) (by rfl)) (@ab _) (by rfl)) (by rfl))) (@ab _) (by rfl)) (by rfl) (by rfl) (by rfl) (by rfl) (by rfl)) (by rfl))) (@ah _ _ _ (@bt _ _ _ _ (@dX _ _ _ _ _ _ _ _ _ _ _ _ PySem.F.plainAttrs_list PySem.F.slot_list_append PySem.F.type_list_append bZ (@pv _ 2 _ _ (by rfl) (by trivial) (by decide) (by decide)) (@aa _ _ _ _ _ (@au _ _ _ _ _ _ _ _ _ _ D_law_def hr rfl (@aa _ _ _ _ _ (@aA _ _ _ _ _ _ _ _ dz (@aD _ _ _ _) (@ay _ _ _ _ _ _ _ mY (@aD _ _ _ _) (@aA _ _ _ _ _ _ _ _ aW (@ax _ _ _ _ _ _ _ _ _ aI rfl T.len (by decide +kernel) (@aa _ _ _ _ _ (@pv _ 2 _ _ (by rfl) (by trivial) (by decide) (by decide)) (@ab _) (by rfl)) (by decide) (by decide) (by rfl) (by rfl)) (@ac _ _ _ _)) (fun _ _ => rfl))) (@aa _ _ _ _ _ (@pv _ 4 _ _ (by rfl) (by trivial) (by decide) (by decide)) (@aa _ _ _ _ _ (@pv _ 1 _ _ (by rfl) (by trivial) (by decide) (by decide)) (@ab _) (by rfl)) (by rfl)) (by rfl)) (by decide) (by rfl) (by rfl)) (@ab _) (by rfl)) (by rfl) (by rfl) (by rfl) (by rfl) (by rfl)) (by rfl))))))) (by intro _; rfl)) (@ah _ _ _ (@ar _ _ _ _ (@bq _ _ _ _ _ _ _ _ _ _ ce (@pv _ 2 _ _ (by rfl) (by trivial) (by decide) (by decide)) (@bI _) (@bw _ _ _ (@ac _ _ _ _))))))), ?_⟩
 refine ⟨Nat.zero_le _, fun L hL => ?_⟩
 have s0 := af hL (.lst [])
 have h0 : upd H L (.lst []) L = some (.lst []) := ad
 generalize upd H L (.lst []) = H0 at s0 h0 ⊢
 have B2 : (if ((ns.map V.int).length : Int) > 1 then ((ns.map V.int).length : Int) else 1) < (1000000 : Int) := by
  rw [List.length_map]
  split <;> omega
 refine ⟨_, rfl, sc, _, rfl, .inl (s0.seq hS), _, _, rfl, 0, _, 6, rfl, ⟨by decide, by decide, by decide, by decide, ?B1, B2⟩, pU (fun i σ H' => ∃ (o3 o4 o5 : Option V) (rs : List Rw) (us : List V), σ = [some (.ref sc), some (.ref r), some (.ref L), o3, o4, o5] /\ ao H H' /\ H' L = some (.lst us) /\ aj H' (rs.map Rw.dv) us /\ jd i rs) ⟨_, _, _, [], [], rfl, s0, h0, by simp [aj], ⟨rfl, by simp, by simp, by simp, by simp, by simp⟩⟩ ?T1 ?_⟩
 case B1 =>
  show (-1000000 : Int) <= (if ((ns.map V.int).length : Int) > 1 then ((ns.map V.int).length : Int) else 1)
  split <;> omega
 case T1 =>
  rintro i σ H2 D1 go1 hi ⟨o3, o4, o5, rs, us, rfl, s2, L2', R2, I2⟩
  have s02 := s2
  have i12 : i < 12 := by have := rs6 ns.length h63; rw [List.length_map] at hi; omega
  obtain ⟨ms, hms, lms⟩ := pN ns (some (0 + (i : Int) * 6)) (some (0 + (i : Int) * 6 + 6))
  refine ⟨_, rfl, _, rfl, _, rfl, _, rfl, _, _, rfl, rfl, _, rfl, sc, _, rfl, s02.seq hS, fun e1 he1 => ⟨z1, fun e2 he2 => ⟨e2, 6, _, rfl, rfl, ad, by decide, by decide, by rw [sizeLine_eq]; decide, fun e3 he3 => ?_⟩⟩⟩
  have c1 := af he1 (.lst (bc (ns.map V.int) (some (0 + (i : Int) * 6)) (some (0 + (i : Int) * 6 + 6))))
  have c2 := af he2 (.lst [.int 0])
  have c3 := af he3 (.lst (List.replicate (6 : Int).toNat [V.int 0]).flatten)
  have f1 := c3 _ _ (c2 _ _ (ad (H := H2) (a := e1) (o := .lst (bc (ns.map V.int) (some (0 + (i : Int) * 6)) (some (0 + (i : Int) * 6 + 6))))))
  refine ⟨e1, e3, _, _, rfl, rfl, f1, ad, ?_, fun e4 he4 => ?_⟩
  ·rw [hms, List.length_map, sizeLine_eq]
   have : (List.replicate (6 : Int).toNat [V.int 0]).flatten.length = 6 := by decide
   omega
  have c4 := af he4 (.lst (bc (ns.map V.int) (some (0 + (i : Int) * 6)) (some (0 + (i : Int) * 6 + 6)) ++ (List.replicate (6 : Int).toNat [V.int 0]).flatten))
  refine ⟨6, rfl, e4, _, rfl, SqL.of ad, fun e5 he5 => ?_⟩
  have c5 := af he5 (.lst (bc (bc (ns.map V.int) (some (0 + (i : Int) * 6)) (some (0 + (i : Int) * 6 + 6)) ++ (List.replicate (6 : Int).toNat [V.int 0]).flatten) none (some 6)))
  have hcells : ∃ cells : List Int, bc (bc (ns.map V.int) (some (0 + (i : Int) * 6)) (some (0 + (i : Int) * 6 + 6)) ++ (List.replicate (6 : Int).toNat [V.int 0]).flatten) none (some 6) = cells.map V.int /\ cells.length = 6 := by
   refine ⟨(ms ++ List.replicate 6 0).take 6, ?_, by rw [List.length_take, List.length_append, List.length_replicate]; omega⟩
   have e := fc (bc (ns.map V.int) (some (0 + (i : Int) * 6)) (some (0 + (i : Int) * 6 + 6)) ++ (List.replicate (6 : Int).toNat [V.int 0]).flatten) 6
   rw [List.map_take, List.map_append, <- hms]
   exact e
  obtain ⟨cells, hc, lc⟩ := hcells
  have s5 := c1.trans (c2.trans (c3.trans (c4.trans c5)))
  have f5 := ad (H := upd (upd (upd (upd H2 e1 (.lst (bc (ns.map V.int) (some (0 + (i : Int) * 6)) (some (0 + (i : Int) * 6 + 6))))) e2 (.lst [.int 0])) e3 (.lst (List.replicate (6 : Int).toNat [V.int 0]).flatten)) e4 (.lst (bc (ns.map V.int) (some (0 + (i : Int) * 6)) (some (0 + (i : Int) * 6 + 6)) ++ (List.replicate (6 : Int).toNat [V.int 0]).flatten))) (a := e5) (o := .lst (bc (bc (ns.map V.int) (some (0 + (i : Int) * 6)) (some (0 + (i : Int) * 6 + 6)) ++ (List.replicate (6 : Int).toNat [V.int 0]).flatten) none (some 6)))
  rw [hc] at f5 s5
  rw [hc]
  generalize upd _ e5 _ = H3 at f5 s5 ⊢
  clear c1 c2 c3 c4 c5 f1 he1 he2 he3 he4 he5
  refine ⟨e5, 36, cells, rfl, SqL.of f5, by omega, by omega, by decide, by decide, fun H4 dA s4 hdA d4 => ?_⟩
  have s24 := s5.trans s4
  have dAn : H2 dA = none := s5.free hdA
  refine gnm ?_
  dsimp only
  refine ⟨_, rfl, dA, _, rfl, d4, fun H5 x s5' d5 x0 x1 => ?_⟩
  have s25 : ao H2 H5 := fun g o e => s5' g o (am e dAn) (s24 _ _ e)
  have s05 := s02.trans s25
  have L5 := s25 _ _ L2'
  have LA : L ≠ dA := am L2' dAn
  have rA : r ≠ dA := am (s02 _ _ hR) dAn
  have r5 := s05 _ _ hR
  have lus : us.length = rs.length := by have := R2.length; rwa [List.length_map] at this
  have lrs := I2.len
  have rr : ∀ {G G' : Hp} {vs : List V}, dD G G' -> aj G (rs.map Rw.dv) vs -> aj G' (rs.map Rw.dv) vs := fun t R => ba (fun d hd v r => by obtain ⟨y, hy, rfl⟩ := List.mem_map.mp hd; exact dF t (I2.pl y hy) r) R
  have R5 := R2.mono s25
  have hAn : H dA = none := by
   cases e : H dA with
   | none => rfl
   | some u => rw [s02 _ _ e] at dAn; cases dAn
  refine gnm ?_
  dsimp only
  have fin : ∀ (H6 : Hp) (v : V) (rw' : Rw), aS dA H5 H6 -> dD H5 H6 -> Rep H6 rw'.dv v -> jd (i + 1) (rs ++ [rw']) -> H6 L = some (.lst us) /\ us.length < sizeLine /\ D1.nx [some (.ref sc), some (.ref r), some (.ref L), some (.int (0 + (i : Int) * 6)), some (.ref dA), some (.int x)] (upd H6 L (.lst (us ++ [v]))) := fun H6 v rw' s6 t6 Rv I6 => by
   have L6 := s6 _ _ LA L5
   have sB := aS.upd H6 L (.lst (us ++ [v]))
   have tB := sB.tups L6
   refine ⟨L6, by rw [sizeLine_eq]; omega, go1 _ _ ⟨_, _, _, rs ++ [rw'], us ++ [v], rfl, fun g o e => sB g o (am e hL) (s6 g o (am e hAn) (s05 _ _ e)), ad, ?_, I6⟩⟩
   rw [List.map_append]
   exact aj.append (rr (t6.trans tB) R5) (bg (dF tB (I6.pl rw' (by simp)) Rv))
  refine ⟨_, rfl, _, _, rfl, rfl, (by show (0 : Int) < 4; decide), rfl, _, rfl, bn (fun _ => ?_) (fun _ => ?_)⟩
  ·refine ⟨_, rfl, .inl ⟨rfl, _, SqL.of L5⟩, _, rfl, _, rfl, dA, r, _, xs, rfl, d5, r5, rA, nms, fun H6 v e s6 D6 Re ee se pe => ⟨z2, fun t ht => ?_⟩⟩
   have p7 := af ht (.tup [.str "ask", v])
   have Ra : Rep (upd H6 t (.tup [.str "ask", v])) (Rw.ask e).dv (.ref t) := by
    show Rep _ (.tup [.str "ask", e]) _
    rw [Rep]
    exact ⟨t, _, rfl, ad, by simp only [aj]; exact ⟨_, _, rfl, by simp only [Rep], _, _, rfl, Re.mono p7, rfl⟩⟩
   obtain ⟨g1, g2, g3⟩ := fin _ (.ref t) (.ask e) (s6.trans (ao.b dA p7)) ((d5.tups s6).trans (ao.tups p7)) Ra (I2.ask ee se pe)
   exact ⟨L, _, _, rfl, rfl, g1, g2, g3⟩
  ·obtain ⟨k1, k2⟩ := wR i i12
   have hl : (((us.length : Nat) : Int) % 12) = ((i : Int) % 12) := by rw [lus, lrs]
   have hat : atI (Str.ofString "abcdefghijkl").cps.toList (((us.length : Nat) : Int) % 12) = some (97 + i) := by rw [hl]; exact xW i12
   refine ⟨_, rfl, .inl ⟨rfl, _, SqL.of L5⟩, _, rfl, L, us, rfl, .inl (SqL.of L5), _, _, rfl, rfl, (by show (0 : Int) < 12; decide), _, _, _, rfl, rfl, (by rw [sizeLine_eq]; decide +kernel), hat, _, _, rfl, rfl, ?_, _, rfl, _, rfl, fN i, dA, r, _, xs, rfl, d5, r5, rA, nms, k1, k2, fun H6 v qs ps e n6 s6 D6 Rv h1 h2 h3 h4 => ?_⟩
   ·rw [sizeLine_eq]; show _ <= 16777216; exact Nat.le_trans (show (Str.ofString "f").length + 1 <= 2 by decide +kernel) (by decide)
   ·obtain ⟨g1, g2, g3⟩ := fin H6 v (.df (fN i) qs ps e) s6 (d5.tups s6) Rv (I2.df i12 h1 h2 h3 h4)
    exact ⟨L, _, _, rfl, rfl, g1, g2, g3⟩
 rintro σ H2 ⟨o3, o4, o5, rs, us, rfl, s2, L2', R2, I2⟩
 have n12 := rs6 ns.length h63
 rw [List.length_map] at I2
 have lus : us.length = rs.length := by have := R2.length; rwa [List.length_map] at this
 have lrs := I2.len
 refine ⟨_, rfl, 12, rfl, L, us, rfl, SqL.of L2', fun l hl => ?_⟩
 have e : bc us none (some 12) = us := by
  rw [show (12 : Int) = ((12 : Nat) : Int) from rfl, fc]
  exact List.take_of_length_le (by omega)
 rw [e]
 have p3 := af hl (.lst us)
 exact q _ l us rs (s2.trans p3) (s2.free hl) ad (R2.mono p3) (I2.pg (by omega)) I2.pl
end
abbrev fk : Stmt := top 59
def ph (K : PySem.W.Frag) : Sp := fun vs H Q _ => ∃ (a : Addr) (ns : List Int), vs = [.ref a] /\ SqL K H a (ns.map V.int) /\ ns.length <= 63 /\ ∀ H', Q (.bl true) H'
theorem kz.nil : kz [] := ⟨Nat.zero_le _, by simp, by simp, by simp⟩
theorem kz.take {rs : List Rw} (h : kz rs) (n : Nat) : kz (rs.take n) := ⟨by rw [List.length_take]; have := h.len; omega, fun r hr => h.row r (List.mem_of_mem_take hr), fun r hr => h.ok r (List.mem_of_mem_take hr), by
 have : rs.flatMap Rw.f? = (rs.take n).flatMap Rw.f? ++ (rs.drop n).flatMap Rw.f? := by rw [<- List.flatMap_append, List.take_append_drop]
 have hN := h.nd
 rw [this] at hN
 exact (List.nodup_append.mp hN).1⟩
theorem cQ {H : Hp} {l : Addr} {us : List V} {ds : List Dv} (h : H l = some (.lst us)) (R : aj H ds us) : Rep H (.lst ds) (.ref l) := by rw [Rep]; exact ⟨l, us, rfl, h, R⟩
section
variable {P : Program} {w : World} {K : PySem.W.Frag} {mg : Str -> Option Value} {base : Heap}
theorem tj : aH ["_law_script", "_law_names_here", "_law_rows", "_law_handed", "_law_found", "_law_again"] ["_law_script"] (ai fk) := ⟨rfl, rfl, rfl, by decide +kernel, rfl, by decide +kernel, by decide +kernel⟩
theorem wC {f : Addr} {fd : FuncData} {k0 : Nat} (F : Fun K "law" "law" fk f fd) (T : Txt K mg) (D_law_draws : Def P w K mg base k0 "_law_draws" ["_law_cells", "_law_many"] (ia K)) (D_law_names : Def P w K mg base k0 "_law_names" ["_law_cell"] kP) (D_law_program : Def P w K mg base k0 "_law_program" ["_law_script", "_law_names_here"] (oq K)) (Dchecked : Def P w K mg base k0 "checked" ["thing"] gq) :
  bi P w K mg base CX0 (k0 + 1) f fd ["_law_script"] (ph K) := by
 have nd : (["_law_script", "_law_names_here", "_law_rows", "_law_handed", "_law_found", "_law_again"] : List Str).Nodup := tj.nd
 refine F.ok tj (fun vs H Q E h => ?_) (fun cdv A outer s H vs Q E hr h => ?_)
 ·obtain ⟨a, ns, rfl, _⟩ := h
  rfl
 obtain ⟨sc, ns, rfl, hS, h63, q⟩ := h
 have hu9 := iI hr
 have huL : (A.deeper (PyProof.Rows.envOfC (Str.ofString "law") (ai fk) s.heap.objs.size f cdv)).units < cLine := by omega
 refine ⟨_, (@ae _ _ _ _ _ (@aJ _ _ (1) _ _ _ _ nd rfl (Or.inl rfl) (@au _ _ _ _ _ _ _ _ _ _ D_law_names hr rfl (@aa _ _ _ _ _ (@ay _ _ _ _ _ _ _ br (@au _ _ _ _ _ _ _ _ _ _ D_law_draws hr rfl (@aa _ _ _ _ _ (@bq _ _ _ _ _ _ _ _ _ _ ce (@aA _ _ _ _ _ _ _ _ oz (@bq _ _ _ _ _ _ _ _ _ _ ce (@pv _ 0 _ _ (by rfl) (by trivial) (by decide) (by decide)) (@bI _) (@bw _ _ _ (@ac _ _ _ _))) (@bp _ _ _ _ (@aa _ _ _ _ _ (@ac _ _ _ _) (@ab _) (by rfl)))) (@bI _) (@bw _ _ _ (@ac _ _ _ _))) (@aa _ _ _ _ _ (@ac _ _ _ _) (@ab _) (by rfl)) (by rfl)) (by decide) (by rfl) (by rfl)) (@ac _ _ _ _) (fun _ _ => rfl)) (@ab _) (by rfl)) (by decide) (by rfl) (by rfl)) (by rfl) (by trivial)) (@ae _ _ _ _ _ (@aJ _ _ (2) _ _ _ _ nd rfl (Or.inl rfl) (@au _ _ _ _ _ _ _ _ _ _ D_law_program hr rfl (@aa _ _ _ _ _ (@pv _ 0 _ _ (by rfl) (by trivial) (by decide) (by decide)) (@aa _ _ _ _ _ (@pv _ 1 _ _ (by rfl) (by trivial) (by decide) (by decide)) (@ab _) (by rfl)) (by rfl)) (by decide) (by rfl) (by rfl)) (by rfl) (by trivial)) (@ae _ _ _ _ _ (@aJ _ _ (3) _ _ _ _ nd rfl (Or.inl rfl) (@dw _ _ _ _ _ _ _ _ _ gb rfl T.list (by decide +kernel) (@aa _ _ _ _ _ (@pv _ 2 _ _ (by rfl) (by trivial) (by decide) (by decide)) (@ab _) (by rfl)) (by decide) (by decide) (by rfl) (by rfl)) (by rfl) (by trivial)) (@ae _ _ _ _ _ (@aJ _ _ (4) _ _ _ _ nd rfl (Or.inl rfl) (@au _ _ _ _ _ _ _ _ _ _ Dchecked hr rfl (@aa _ _ _ _ _ (@pv _ 3 _ _ (by rfl) (by trivial) (by decide) (by decide)) (@ab _) (by rfl)) (by decide) (by rfl) (by rfl)) (by rfl) (by trivial)) (@ae _ _ _ _ _ (@aN _ _ _ _ _ _ _ _ (@PW.pt _ _ _ (@cD _ _ _ _ _ _ _ (@bM _ _ _ _ (@bF _ _ _ (@ax _ _ _ _ _ _ _ _ _ bB rfl T.isinstance (by decide +kernel) (@aa _ _ _ _ _ (@pv _ 4 _ _ (by rfl) (by trivial) (by decide) (by decide)) (@aa _ _ _ _ _ (@bX _ _ (.ty "list") _ _ rfl T.list (by decide +kernel) rfl (by decide) (by decide)) (@ab _) (by rfl)) (by rfl)) (by decide) (by decide) (by rfl) (by rfl)) (by intro _; rfl))) (@cD _ _ _ _ _ _ _ (@ap _ _ _ _ _ _ _ _ (ig hu9) (@pv _ 4 _ _ (by rfl) (by trivial) (by decide) (by decide)) (@pv _ 2 _ _ (by rfl) (by trivial) (by decide) (by decide)) (aq _)) (@cj _ _ _ _ (@ap _ _ _ _ _ _ _ _ (ig hu9) (@pv _ 3 _ _ (by rfl) (by trivial) (by decide) (by decide)) (@pv _ 2 _ _ (by rfl) (by trivial) (by decide) (by decide)) (aq _)))))) (@ah _ _ _ (@ar _ _ _ _ (@bN _ _ _ _))) (@av _)) (@ae _ _ _ _ _ (@bt _ _ _ _ (@eP _ _ _ _ _ _ _ _ _ PySem.F.plainAttrs_list PySem.F.slot_list_clear PySem.F.type_list_clear tK (@pv _ 3 _ _ (by rfl) (by trivial) (by decide) (by decide)) (by rfl) (by rfl)) (by rfl)) (@ae _ _ _ _ _ (@aJ _ _ (5) _ _ _ _ nd rfl (Or.inl rfl) (@au _ _ _ _ _ _ _ _ _ _ Dchecked hr rfl (@aa _ _ _ _ _ (@pv _ 4 _ _ (by rfl) (by trivial) (by decide) (by decide)) (@ab _) (by rfl)) (by decide) (by rfl) (by rfl)) (by rfl) (by trivial)) (@ae _ _ _ _ _ (@bt _ _ _ _ (@dX _ _ _ _ _ _ _ _ _ _ _ _ PySem.F.plainAttrs_list PySem.F.slot_list_append PySem.F.type_list_append bZ (@pv _ 5 _ _ (by rfl) (by trivial) (by decide) (by decide)) (@aa _ _ _ _ _ (@nY _ _ _) (@ab _) (by rfl)) (by rfl) (by rfl) (by rfl) (by rfl) (by rfl)) (by rfl)) (@ae _ _ _ _ _ (@aN _ _ _ _ _ _ _ _ (@PW.pt _ _ _ (@cD _ _ _ _ _ _ _ (@ap _ _ _ _ _ _ _ _ (ig hu9) (@pv _ 4 _ _ (by rfl) (by trivial) (by decide) (by decide)) (@pv _ 2 _ _ (by rfl) (by trivial) (by decide) (by decide)) (aq _)) (@cj _ _ _ _ (@ap _ _ _ _ _ _ _ _ (ig hu9) (@au _ _ _ _ _ _ _ _ _ _ Dchecked hr rfl (@aa _ _ _ _ _ (@pv _ 2 _ _ (by rfl) (by trivial) (by decide) (by decide)) (@ab _) (by rfl)) (by decide) (by rfl) (by rfl)) (@pv _ 2 _ _ (by rfl) (by trivial) (by decide) (by decide)) (aq _))))) (@ah _ _ _ (@ar _ _ _ _ (@bN _ _ _ _))) (@av _)) (@ah _ _ _ (@ar _ _ _ _ (@bm _ _ _ _ _ _ _ (@bd _ _ _ _ _ _ _ _ (nH huL) (@au _ _ _ _ _ _ _ _ _ _ Dchecked hr rfl (@aa _ _ _ _ _ (@bp _ _ _ _ (@ab _)) (@ab _) (by rfl)) (by decide) (by rfl) (by rfl)) (@bp _ _ _ _ (@ab _)) (aq _)) (@bH _ _ _ _ _ (@bd _ _ _ _ _ _ _ _ (tX hu9) (@au _ _ _ _ _ _ _ _ _ _ Dchecked hr rfl (@aa _ _ _ _ _ (@bq _ _ _ _ _ _ _ _ _ _ ce (@pv _ 2 _ _ (by rfl) (by trivial) (by decide) (by decide)) (@bI _) (@bw _ _ _ (@ac _ _ _ _))) (@ab _) (by rfl)) (by decide) (by rfl) (by rfl)) (@bq _ _ _ _ _ _ _ _ _ _ ce (@pv _ 2 _ _ (by rfl) (by trivial) (by decide) (by decide)) (@bI _) (@bw _ _ _ (@ac _ _ _ _))) (aq _))))))))))))))), ?_⟩
 obtain ⟨ms, hms, lms⟩ := pN ns none (some 1)
 refine ⟨_, rfl, 1, rfl, sc, _, rfl, hS, fun e1 he1 => ⟨z1, fun e2 he2 => ?_⟩⟩
 have c1 := af he1 (.lst (bc (ns.map V.int) none (some 1)))
 have c2 := af he2 (.lst [.int 0])
 refine ⟨e1, e2, _, _, rfl, rfl, c2 _ _ ad, ad, by rw [hms, List.length_map, sizeLine_eq]; show ms.length + 1 <= 16777216; omega, fun e3 he3 => ?_⟩
 have c3 := af he3 (.lst (bc (ns.map V.int) none (some 1) ++ [.int 0]))
 refine ⟨1, rfl, e3, _, rfl, SqL.of ad, fun e4 he4 => ?_⟩
 have c4 := af he4 (.lst (bc (bc (ns.map V.int) none (some 1) ++ [.int 0]) none (some 1)))
 have hcells : ∃ cells : List Int, bc (bc (ns.map V.int) none (some 1) ++ [.int 0]) none (some 1) = cells.map V.int /\ cells.length = 1 := by
  refine ⟨(ms ++ [0]).take 1, ?_, by rw [List.length_take, List.length_append, List.length_singleton]; omega⟩
  have e := fc (bc (ns.map V.int) none (some 1) ++ [.int 0]) 1
  rw [List.map_take, List.map_append, <- hms]
  exact e
 obtain ⟨cells, hc, lc⟩ := hcells
 have s1 := c1.trans (c2.trans (c3.trans c4))
 have f1 := ad (H := upd (upd (upd H e1 (.lst (bc (ns.map V.int) none (some 1)))) e2 (.lst [.int 0])) e3 (.lst (bc (ns.map V.int) none (some 1) ++ [.int 0]))) (a := e4) (o := .lst (bc (bc (ns.map V.int) none (some 1) ++ [.int 0]) none (some 1)))
 rw [hc] at f1 s1
 rw [hc]
 generalize upd _ e4 _ = H1 at f1 s1 ⊢
 clear c1 c2 c3 c4
 refine ⟨e4, 3, cells, rfl, SqL.of f1, by omega, by omega, by decide, by decide, fun H2 dA s2 hdA d2 => ?_⟩
 obtain ⟨is, hdl, lis, his⟩ := d2
 obtain ⟨y, ys, rfl⟩ : ∃ y z, is = y :: z := by cases is with | nil => cases lis | cons y z => exact ⟨y, z, rfl⟩
 refine ⟨dA, _, 0, .int y, rfl, rfl, SqL.of hdl, ak (j := 0) rfl, y, rfl, (his y List.mem_cons_self).1, fun H3 r xs s3 hrn hr3 nms => ?_⟩
 have s03 := s1.trans (s2.trans s3)
 refine gnm ?_
 dsimp only
 refine ⟨_, rfl, _, rfl, sc, r, ns, xs, rfl, s03.seq hS, h63, hr3, nms, fun H4 L us rs s4 hL hL4 R4 ok pl => ?_⟩
 refine gnm ?_
 dsimp only
 have lus : us.length = rs.length := by have := R4.length; rwa [List.length_map] at this
 have l12 := ok.len
 have rr : ∀ {G G' : Hp} {vs : List V}, dD G G' -> aj G (rs.map Rw.dv) vs -> aj G' (rs.map Rw.dv) vs := fun t R => ba (fun d hd v r => by obtain ⟨y, hy, rfl⟩ := List.mem_map.mp hd; exact dF t (pl y hy) r) R
 have pls : ∀ d ∈ rs.map Rw.dv, L2.Pl 12 d := fun d hd => by obtain ⟨y, hy, rfl⟩ := List.mem_map.mp hd; exact pl y hy
 refine ⟨_, rfl, L, us, rfl, .inl (SqL.of hL4), fun hd hhd => ?_⟩
 have p5 := af hhd (.lst us)
 have hd5 : upd H4 hd (.lst us) hd = some (.lst us) := ad
 generalize upd H4 hd (.lst us) = H5 at p5 hd5 ⊢
 refine gnm ?_
 dsimp only
 refine ⟨_, rfl, hd, us, rs, rfl, hd5, R4.mono p5, ok, fun H6 fo s6 hfo hfo6 => ?_⟩
 refine gnm ?_
 dsimp only
 have L6 := s6 _ _ (p5 _ _ hL4)
 have hd6 := s6 _ _ hd5
 have R6 := R4.mono (p5.trans s6)
 have hf : fo ≠ hd := fun e => by rw [e, hd5] at hfo; cases hfo
 have Lh : L ≠ hd := am hL4 hhd
 have Lf : L ≠ fo := fun e => by rw [<- e, p5 _ _ hL4] at hfo; cases hfo
 have Rf : Rep H6 (.lst (rs.map Rw.dv)) (.ref fo) := cQ hfo6 R6
 refine ⟨_, rfl, _, _, _, _, rfl, Rf.ty, lM K _, _, rfl, ?_⟩
 refine aM ⟨_, rfl, _, rfl, 12, rs.map Rw.dv, pls, by decide, Rf, cQ L6 R6, _, rfl, ?_⟩
 refine aM ⟨_, rfl, _, rfl, 12, rs.map Rw.dv, pls, by decide, cQ hd6 R6, cQ L6 R6, _, rfl, ?_⟩
 refine aM ?_
 refine ⟨_, rfl, .inl ⟨rfl, _, SqL.of hd6⟩, hd, _, rfl, rfl, hd6, ?_⟩
 have sB := aS.upd H6 hd (.lst [])
 have tB := sB.tups hd6
 have L7 := sB _ _ Lh L6
 have f7 := sB _ _ hf hfo6
 have R7 := rr tB R6
 generalize upd H6 hd (.lst []) = H7 at sB tB L7 f7 R7 ⊢
 refine ⟨_, rfl, fo, us, rs, rfl, f7, R7, ok, fun H8 ag s8 hag hag8 => ?_⟩
 refine gnm ?_
 dsimp only
 refine ⟨_, rfl, .inl ⟨rfl, _, SqL.of hag8⟩, ag, _, _, rfl, rfl, hag8, by rw [sizeLine_eq]; omega, ?_⟩
 have sC := aS.upd H8 ag (.lst (us ++ [.non]))
 have tC := sC.tups hag8
 have La : L ≠ ag := fun e => by rw [<- e, L7] at hag; cases hag
 have fa : fo ≠ ag := fun e => by rw [<- e, f7] at hag; cases hag
 have L9 := sC _ _ La (s8 _ _ L7)
 have f9 := sC _ _ fa (s8 _ _ f7)
 have R9 := rr tC (R7.mono s8)
 generalize upd H8 ag (.lst (us ++ [.non])) = H9 at sC tC L9 f9 R9 ⊢
 refine ⟨_, rfl, _, rfl, 12, rs.map Rw.dv, pls, by decide, cQ f9 R9, cQ L9 R9, _, rfl, ?_⟩
 refine aM ⟨_, rfl, L, us, rs, rfl, L9, R9, ok, fun H10 g s10 hg hg10 => ?_⟩
 refine ⟨_, rfl, 12, rs.map Rw.dv, pls, by decide, cQ hg10 (R9.mono s10), cQ (s10 _ _ L9) (R9.mono s10), _, rfl, ?_⟩
 refine aM ⟨Nat.zero_le _, fun n1 hn1 => ?_⟩
 have p11 := af hn1 (.lst [])
 refine ⟨n1, [], [], rfl, ad, by simp [aj], kz.nil, fun H11 g2 s11 hg2 hg11 => ⟨Nat.zero_le _, fun n2 hn2 => ?_⟩⟩
 have p12 := af hn2 (.lst [])
 refine ⟨g2, n2, [], rfl, rfl, SqL.of (p12 _ _ hg11), SqL.of ad, _, rfl, ?_⟩
 have sD := s10.trans (p11.trans (s11.trans p12))
 have L12 := sD _ _ L9
 have R12 := R9.mono sD
 generalize upd H11 n2 (.lst []) = H12 at sD L12 R12 p12 ⊢
 refine aO ⟨_, rfl, 1, rfl, L, us, rfl, SqL.of L12, fun n3 hn3 => ?_⟩
 have e1' : bc us none (some 1) = us.take 1 := fc us 1
 rw [e1']
 have p13 := af hn3 (.lst (us.take 1))
 have R13 : aj (upd H12 n3 (.lst (us.take 1))) ((rs.take 1).map Rw.dv) (us.take 1) := by rw [List.map_take]; exact KB.reps_take 1 (R12.mono p13)
 refine ⟨n3, us.take 1, rs.take 1, rfl, ad, R13, ok.take 1, fun H14 g3 s14 hg3 hg14 => ⟨_, rfl, 1, rfl, L, us, rfl, SqL.of (s14 _ _ (p13 _ _ L12)), fun n4 hn4 => ?_⟩⟩
 rw [e1']
 have p15 := af hn4 (.lst (us.take 1))
 exact ⟨12, (rs.take 1).map Rw.dv, fun d hd => by obtain ⟨y, hy, rfl⟩ := List.mem_map.mp hd; exact pl y (List.mem_of_mem_take hy), by decide, cQ (p15 _ _ hg14) ((R13.mono s14).mono p15), cQ ad ((R13.mono s14).mono p15), q _⟩
end
theorem us1 {p : List Value -> Prop} (h : ∀ x0, p [x0]) : ∀ us : List Value, us.length = 1 -> p us
 | [x0], _ => h x0
theorem us2 {p : List Value -> Prop} (h : ∀ x0 x1, p [x0, x1]) : ∀ us : List Value, us.length = 2 -> p us
 | [x0, x1], _ => h x0 x1
theorem us3 {p : List Value -> Prop} (h : ∀ x0 x1 x2, p [x0, x1, x2]) : ∀ us : List Value, us.length = 3 -> p us
 | [x0, x1, x2], _ => h x0 x1 x2
theorem all_mk {l : PySem.W.OpenLaw} {w : World} {K : PySem.W.Frag} {h : Heap} {mg : Str -> Option Value} {fa f1 f2 f3 f4 f5 f6 f7 f8 f9 f10 f11 f12 f13 f14 f15 f16 f17 f18 f19 f20 f21 f22 f23 f24 f25 f26 f27 f28 f29 f30 f31 f32 f33 f34 f35 f36 f37 f38 f39 f40 f41 : Addr} (X : K.In h) (G : h.Ns mainGlobals mg) (hfa : mg "law" = some (.ref fa))
  {od1 an1 od2 an2 od3 an3 od4 an4 od5 an5 od6 an6 od7 an7 od8 an8 od9 an9 od10 an10 od11 an11 od12 an12 od13 an13 od14 an14 od15 an15 od16 an16 od17 an17 od18 an18 od19 an19 od20 an20 od21 an21 od22 an22 od23 an23 od24 an24 od25 an25 od26 an26 od27 an27 od28 an28 od29 an29 od30 an30 od31 an31 od32 an32 od33 an33 od34 an34 od35 an35 od36 an36 od37 an37 od38 an38 od39 an39 od40 an40 od41 an41 : Option Addr} {sl1 sl2 sl3 sl4 sl5 sl6 sl7 sl8 sl9 sl10 sl11 sl12 sl13 sl14 sl15 sl16 sl17 sl18 sl19 sl20 sl21 sl22 sl23 sl24 sl25 sl26 sl27 sl28 sl29 sl30 sl31 sl32 sl33 sl34 sl35 sl36 sl37 sl38 sl39 sl40 sl41 : Array (Option Value)}
  {oc1 kV1 dc1 pm1 cd1 ct1 oc2 kV2 dc2 pm2 cd2 ct2 oc3 kV3 dc3 pm3 cd3 ct3 oc4 kV4 dc4 pm4 cd4 ct4 oc5 kV5 dc5 pm5 cd5 ct5 oc6 kV6 dc6 pm6 cd6 ct6 oc7 kV7 dc7 pm7 cd7 ct7 oc8 kV8 dc8 pm8 cd8 ct8 oc9 kV9 dc9 pm9 cd9 ct9 oc10 kV10 dc10 pm10 cd10 ct10 oc11 kV11 dc11 pm11 cd11 ct11 oc12 kV12 dc12 pm12 cd12 ct12 oc13 kV13 dc13 pm13 cd13 ct13 oc14 kV14 dc14 pm14 cd14 ct14 oc15 kV15 dc15 pm15 cd15 ct15 oc16 kV16 dc16 pm16 cd16 ct16 oc17 kV17 dc17 pm17 cd17 ct17 oc18 kV18 dc18 pm18 cd18 ct18 oc19 kV19 dc19 pm19 cd19 ct19 oc20 kV20 dc20 pm20 cd20 ct20 oc21 kV21 dc21 pm21 cd21 ct21 oc22 kV22 dc22 pm22 cd22 ct22 oc23 kV23 dc23 pm23 cd23 ct23 oc24 kV24 dc24 pm24 cd24 ct24 oc25 kV25 dc25 pm25 cd25 ct25 oc26 kV26 dc26 pm26 cd26 ct26 oc27 kV27 dc27 pm27 cd27 ct27 oc28 kV28 dc28 pm28 cd28 ct28 oc29 kV29 dc29 pm29 cd29 ct29 oc30 kV30 dc30 pm30 cd30 ct30 oc31 kV31 dc31 pm31 cd31 ct31 oc32 kV32 dc32 pm32 cd32 ct32 oc33 kV33 dc33 pm33 cd33 ct33 oc34 kV34 dc34 pm34 cd34 ct34 oc35 kV35 dc35 pm35 cd35 ct35 oc36 kV36 dc36 pm36 cd36 ct36 oc37 kV37 dc37 pm37 cd37 ct37 oc38 kV38 dc38 pm38 cd38 ct38 oc39 kV39 dc39 pm39 cd39 ct39 oc40 kV40 dc40 pm40 cd40 ct40 oc41 kV41 dc41 pm41 cd41 ct41 : Value}
  (a1 : PySem.W.nsIn K mainGlobals "is_whole" = some (some (.ref f1)))
  (l1 : K.lookup f1 = some ⟨oc1, od1, .func (PySem.W.fnOf "is_whole" "is_whole" (aG cG) (aF cG) (ai cG) .none kV1 dc1 pm1 an1 cd1 ct1), sl1⟩)
  (c1 : PySem.W.codeIn K cd1 "is_whole" = true) (k1 : PySem.W.keepIn K (.ref f1) = true)
  (a2 : PySem.W.nsIn K mainGlobals "is_name" = some (some (.ref f2)))
  (l2 : K.lookup f2 = some ⟨oc2, od2, .func (PySem.W.fnOf "is_name" "is_name" (aG di) (aF di) (ai di) .none kV2 dc2 pm2 an2 cd2 ct2), sl2⟩)
  (c2 : PySem.W.codeIn K cd2 "is_name" = true) (k2 : PySem.W.keepIn K (.ref f2) = true)
  (a3 : PySem.W.nsIn K mainGlobals "is_part" = some (some (.ref f3)))
  (l3 : K.lookup f3 = some ⟨oc3, od3, .func (PySem.W.fnOf "is_part" "is_part" (aG dg) (aF dg) (ai dg) .none kV3 dc3 pm3 an3 cd3 ct3), sl3⟩)
  (c3 : PySem.W.codeIn K cd3 "is_part" = true) (k3 : PySem.W.keepIn K (.ref f3) = true)
  (a4 : PySem.W.nsIn K mainGlobals "are_parts" = some (some (.ref f4)))
  (l4 : K.lookup f4 = some ⟨oc4, od4, .func (PySem.W.fnOf "are_parts" "are_parts" (aG cv) (aF cv) (ai cv) .none kV4 dc4 pm4 an4 cd4 ct4), sl4⟩)
  (c4 : PySem.W.codeIn K cd4 "are_parts" = true) (k4 : PySem.W.keepIn K (.ref f4) = true)
  (a5 : PySem.W.nsIn K mainGlobals "is_length" = some (some (.ref f5)))
  (l5 : K.lookup f5 = some ⟨oc5, od5, .func (PySem.W.fnOf "is_length" "is_length" (aG cr) (aF cr) (ai cr) .none kV5 dc5 pm5 an5 cd5 ct5), sl5⟩)
  (c5 : PySem.W.codeIn K cd5 "is_length" = true) (k5 : PySem.W.keepIn K (.ref f5) = true)
  (a6 : PySem.W.nsIn K mainGlobals "is_small_length" = some (some (.ref f6)))
  (l6 : K.lookup f6 = some ⟨oc6, od6, .func (PySem.W.fnOf "is_small_length" "is_small_length" (aG cP) (aF cP) (ai cP) .none kV6 dc6 pm6 an6 cd6 ct6), sl6⟩)
  (c6 : PySem.W.codeIn K cd6 "is_small_length" = true) (k6 : PySem.W.keepIn K (.ref f6) = true)
  (a7 : PySem.W.nsIn K mainGlobals "has_word" = some (some (.ref f7)))
  (l7 : K.lookup f7 = some ⟨oc7, od7, .func (PySem.W.fnOf "has_word" "has_word" (aG cH) (aF cH) (ai cH) .none kV7 dc7 pm7 an7 cd7 ct7), sl7⟩)
  (c7 : PySem.W.codeIn K cd7 "has_word" = true) (k7 : PySem.W.keepIn K (.ref f7) = true)
  (a8 : PySem.W.nsIn K mainGlobals "is_point" = some (some (.ref f8)))
  (l8 : K.lookup f8 = some ⟨oc8, od8, .func (PySem.W.fnOf "is_point" "is_point" (aG cJ) (aF cJ) (ai cJ) .none kV8 dc8 pm8 an8 cd8 ct8), sl8⟩)
  (c8 : PySem.W.codeIn K cd8 "is_point" = true) (k8 : PySem.W.keepIn K (.ref f8) = true)
  (a9 : PySem.W.nsIn K mainGlobals "things_of" = some (some (.ref f9)))
  (l9 : K.lookup f9 = some ⟨oc9, od9, .func (PySem.W.fnOf "things_of" "things_of" (aG bD) (aF bD) (ai bD) .none kV9 dc9 pm9 an9 cd9 ct9), sl9⟩)
  (c9 : PySem.W.codeIn K cd9 "things_of" = true) (k9 : PySem.W.keepIn K (.ref f9) = true)
  (a10 : PySem.W.nsIn K mainGlobals "is_kind" = some (some (.ref f10)))
  (l10 : K.lookup f10 = some ⟨oc10, od10, .func (PySem.W.fnOf "is_kind" "is_kind" (aG du) (aF du) (ai du) .none kV10 dc10 pm10 an10 cd10 ct10), sl10⟩)
  (c10 : PySem.W.codeIn K cd10 "is_kind" = true) (k10 : PySem.W.keepIn K (.ref f10) = true)
  (a11 : PySem.W.nsIn K mainGlobals "is_below" = some (some (.ref f11)))
  (l11 : K.lookup f11 = some ⟨oc11, od11, .func (PySem.W.fnOf "is_below" "is_below" (aG cE) (aF cE) (ai cE) .none kV11 dc11 pm11 an11 cd11 ct11), sl11⟩)
  (c11 : PySem.W.codeIn K cd11 "is_below" = true) (k11 : PySem.W.keepIn K (.ref f11) = true)
  (a12 : PySem.W.nsIn K mainGlobals "is_def_name" = some (some (.ref f12)))
  (l12 : K.lookup f12 = some ⟨oc12, od12, .func (PySem.W.fnOf "is_def_name" "is_def_name" (aG bL) (aF bL) (ai bL) .none kV12 dc12 pm12 an12 cd12 ct12), sl12⟩)
  (c12 : PySem.W.codeIn K cd12 "is_def_name" = true) (k12 : PySem.W.keepIn K (.ref f12) = true)
  (a13 : PySem.W.nsIn K mainGlobals "is_few" = some (some (.ref f13)))
  (l13 : K.lookup f13 = some ⟨oc13, od13, .func (PySem.W.fnOf "is_few" "is_few" (aG dY) (aF dY) (ai dY) .none kV13 dc13 pm13 an13 cd13 ct13), sl13⟩)
  (c13 : PySem.W.codeIn K cd13 "is_few" = true) (k13 : PySem.W.keepIn K (.ref f13) = true)
  (a14 : PySem.W.nsIn K mainGlobals "fits" = some (some (.ref f14)))
  (l14 : K.lookup f14 = some ⟨oc14, od14, .func (PySem.W.fnOf "fits" "fits" (aG gy) (aF gy) (ai gy) .none kV14 dc14 pm14 an14 cd14 ct14), sl14⟩)
  (c14 : PySem.W.codeIn K cd14 "fits" = true) (k14 : PySem.W.keepIn K (.ref f14) = true)
  (a15 : PySem.W.nsIn K mainGlobals "is_node" = some (some (.ref f15)))
  (l15 : K.lookup f15 = some ⟨oc15, od15, .func (PySem.W.fnOf "is_node" "is_node" (aG de) (aF de) (ai de) .none kV15 dc15 pm15 an15 cd15 ct15), sl15⟩)
  (c15 : PySem.W.codeIn K cd15 "is_node" = true) (k15 : PySem.W.keepIn K (.ref f15) = true)
  (a16 : PySem.W.nsIn K mainGlobals "parts_of" = some (some (.ref f16)))
  (l16 : K.lookup f16 = some ⟨oc16, od16, .func (PySem.W.fnOf "parts_of" "parts_of" (aG cK) (aF cK) (ai cK) .none kV16 dc16 pm16 an16 cd16 ct16), sl16⟩)
  (c16 : PySem.W.codeIn K cd16 "parts_of" = true) (k16 : PySem.W.keepIn K (.ref f16) = true)
  (a17 : PySem.W.nsIn K mainGlobals "is_expression" = some (some (.ref f17)))
  (l17 : K.lookup f17 = some ⟨oc17, od17, .func (PySem.W.fnOf "is_expression" "is_expression" (aG dm) (aF dm) (ai dm) .none kV17 dc17 pm17 an17 cd17 ct17), sl17⟩)
  (c17 : PySem.W.codeIn K cd17 "is_expression" = true) (k17 : PySem.W.keepIn K (.ref f17) = true)
  (a18 : PySem.W.nsIn K mainGlobals "length_at" = some (some (.ref f18)))
  (l18 : K.lookup f18 = some ⟨oc18, od18, .func (PySem.W.fnOf "length_at" "length_at" (aG ck) (aF ck) (ai ck) .none kV18 dc18 pm18 an18 cd18 ct18), sl18⟩)
  (c18 : PySem.W.codeIn K cd18 "length_at" = true) (k18 : PySem.W.keepIn K (.ref f18) = true)
  (a19 : PySem.W.nsIn K mainGlobals "in_order" = some (some (.ref f19)))
  (l19 : K.lookup f19 = some ⟨oc19, od19, .func (PySem.W.fnOf "in_order" "in_order" (aG cL) (aF cL) (ai cL) .none kV19 dc19 pm19 an19 cd19 ct19), sl19⟩)
  (c19 : PySem.W.codeIn K cd19 "in_order" = true) (k19 : PySem.W.keepIn K (.ref f19) = true)
  (a20 : PySem.W.nsIn K mainGlobals "points_of" = some (some (.ref f20)))
  (l20 : K.lookup f20 = some ⟨oc20, od20, .func (PySem.W.fnOf "points_of" "points_of" (aG cq) (aF cq) (ai cq) .none kV20 dc20 pm20 an20 cd20 ct20), sl20⟩)
  (c20 : PySem.W.codeIn K cd20 "points_of" = true) (k20 : PySem.W.keepIn K (.ref f20) = true)
  (a21 : PySem.W.nsIn K mainGlobals "are_names" = some (some (.ref f21)))
  (l21 : K.lookup f21 = some ⟨oc21, od21, .func (PySem.W.fnOf "are_names" "are_names" (aG cp) (aF cp) (ai cp) .none kV21 dc21 pm21 an21 cd21 ct21), sl21⟩)
  (c21 : PySem.W.codeIn K cd21 "are_names" = true) (k21 : PySem.W.keepIn K (.ref f21) = true)
  (a22 : PySem.W.nsIn K mainGlobals "is_param" = some (some (.ref f22)))
  (l22 : K.lookup f22 = some ⟨oc22, od22, .func (PySem.W.fnOf "is_param" "is_param" (aG cI) (aF cI) (ai cI) .none kV22 dc22 pm22 an22 cd22 ct22), sl22⟩)
  (c22 : PySem.W.codeIn K cd22 "is_param" = true) (k22 : PySem.W.keepIn K (.ref f22) = true)
  (a23 : PySem.W.nsIn K mainGlobals "are_params" = some (some (.ref f23)))
  (l23 : K.lookup f23 = some ⟨oc23, od23, .func (PySem.W.fnOf "are_params" "are_params" (aG bV) (aF bV) (ai bV) .none kV23 dc23 pm23 an23 cd23 ct23), sl23⟩)
  (c23 : PySem.W.codeIn K cd23 "are_params" = true) (k23 : PySem.W.keepIn K (.ref f23) = true)
  (a24 : PySem.W.nsIn K mainGlobals "is_row" = some (some (.ref f24)))
  (l24 : K.lookup f24 = some ⟨oc24, od24, .func (PySem.W.fnOf "is_row" "is_row" (aG eh) (aF eh) (ai eh) .none kV24 dc24 pm24 an24 cd24 ct24), sl24⟩)
  (c24 : PySem.W.codeIn K cd24 "is_row" = true) (k24 : PySem.W.keepIn K (.ref f24) = true)
  (a25 : PySem.W.nsIn K mainGlobals "is_twice" = some (some (.ref f25)))
  (l25 : K.lookup f25 = some ⟨oc25, od25, .func (PySem.W.fnOf "is_twice" "is_twice" (aG cO) (aF cO) (ai cO) .none kV25 dc25 pm25 an25 cd25 ct25), sl25⟩)
  (c25 : PySem.W.codeIn K cd25 "is_twice" = true) (k25 : PySem.W.keepIn K (.ref f25) = true)
  (a26 : PySem.W.nsIn K mainGlobals "unbound" = some (some (.ref f26)))
  (l26 : K.lookup f26 = some ⟨oc26, od26, .func (PySem.W.fnOf "unbound" "unbound" (aG dq) (aF dq) (ai dq) .none kV26 dc26 pm26 an26 cd26 ct26), sl26⟩)
  (c26 : PySem.W.codeIn K cd26 "unbound" = true) (k26 : PySem.W.keepIn K (.ref f26) = true)
  (a27 : PySem.W.nsIn K mainGlobals "may_stand" = some (some (.ref f27)))
  (l27 : K.lookup f27 = some ⟨oc27, od27, .func (PySem.W.fnOf "may_stand" "may_stand" (aG bR) (aF bR) (ai bR) .none kV27 dc27 pm27 an27 cd27 ct27), sl27⟩)
  (c27 : PySem.W.codeIn K cd27 "may_stand" = true) (k27 : PySem.W.keepIn K (.ref f27) = true)
  (a28 : PySem.W.nsIn K mainGlobals "are_bound" = some (some (.ref f28)))
  (l28 : K.lookup f28 = some ⟨oc28, od28, .func (PySem.W.fnOf "are_bound" "are_bound" (aG cm) (aF cm) (ai cm) .none kV28 dc28 pm28 an28 cd28 ct28), sl28⟩)
  (c28 : PySem.W.codeIn K cd28 "are_bound" = true) (k28 : PySem.W.keepIn K (.ref f28) = true)
  (a29 : PySem.W.nsIn K mainGlobals "hold_rows" = some (some (.ref f29)))
  (l29 : K.lookup f29 = some ⟨oc29, od29, .func (PySem.W.fnOf "hold_rows" "hold_rows" (aG cw) (aF cw) (ai cw) .none kV29 dc29 pm29 an29 cd29 ct29), sl29⟩)
  (c29 : PySem.W.codeIn K cd29 "hold_rows" = true) (k29 : PySem.W.keepIn K (.ref f29) = true)
  (a30 : PySem.W.nsIn K mainGlobals "hold_once" = some (some (.ref f30)))
  (l30 : K.lookup f30 = some ⟨oc30, od30, .func (PySem.W.fnOf "hold_once" "hold_once" (aG cu) (aF cu) (ai cu) .none kV30 dc30 pm30 an30 cd30 ct30), sl30⟩)
  (c30 : PySem.W.codeIn K cd30 "hold_once" = true) (k30 : PySem.W.keepIn K (.ref f30) = true)
  (a31 : PySem.W.nsIn K mainGlobals "hold_bound" = some (some (.ref f31)))
  (l31 : K.lookup f31 = some ⟨oc31, od31, .func (PySem.W.fnOf "hold_bound" "hold_bound" (aG ca) (aF ca) (ai ca) .none kV31 dc31 pm31 an31 cd31 ct31), sl31⟩)
  (c31 : PySem.W.codeIn K cd31 "hold_bound" = true) (k31 : PySem.W.keepIn K (.ref f31) = true)
  (a32 : PySem.W.nsIn K mainGlobals "checked" = some (some (.ref f32)))
  (l32 : K.lookup f32 = some ⟨oc32, od32, .func (PySem.W.fnOf "checked" "checked" (aG dr) (aF dr) (ai dr) .none kV32 dc32 pm32 an32 cd32 ct32), sl32⟩)
  (c32 : PySem.W.codeIn K cd32 "checked" = true) (k32 : PySem.W.keepIn K (.ref f32) = true)
  (a33 : PySem.W.nsIn K mainGlobals "_law_draws" = some (some (.ref f33)))
  (l33 : K.lookup f33 = some ⟨oc33, od33, .func (PySem.W.fnOf "_law_draws" "_law_draws" (aG fe) (aF fe) (ai fe) .none kV33 dc33 pm33 an33 cd33 ct33), sl33⟩)
  (c33 : PySem.W.codeIn K cd33 "_law_draws" = true) (k33 : PySem.W.keepIn K (.ref f33) = true)
  (a34 : PySem.W.nsIn K mainGlobals "_law_next" = some (some (.ref f34)))
  (l34 : K.lookup f34 = some ⟨oc34, od34, .func (PySem.W.fnOf "_law_next" "_law_next" (aG fA) (aF fA) (ai fA) .none kV34 dc34 pm34 an34 cd34 ct34), sl34⟩)
  (c34 : PySem.W.codeIn K cd34 "_law_next" = true) (k34 : PySem.W.keepIn K (.ref f34) = true)
  (a35 : PySem.W.nsIn K mainGlobals "_law_names" = some (some (.ref f35)))
  (l35 : K.lookup f35 = some ⟨oc35, od35, .func (PySem.W.fnOf "_law_names" "_law_names" (aG ff) (aF ff) (ai ff) .none kV35 dc35 pm35 an35 cd35 ct35), sl35⟩)
  (c35 : PySem.W.codeIn K cd35 "_law_names" = true) (k35 : PySem.W.keepIn K (.ref f35) = true)
  (a36 : PySem.W.nsIn K mainGlobals "_law_expression" = some (some (.ref f36)))
  (l36 : K.lookup f36 = some ⟨oc36, od36, .func (PySem.W.fnOf "_law_expression" "_law_expression" (aG bY) (aF bY) (ai bY) .none kV36 dc36 pm36 an36 cd36 ct36), sl36⟩)
  (c36 : PySem.W.codeIn K cd36 "_law_expression" = true) (k36 : PySem.W.keepIn K (.ref f36) = true)
  (a37 : PySem.W.nsIn K mainGlobals "_law_sum" = some (some (.ref f37)))
  (l37 : K.lookup f37 = some ⟨oc37, od37, .func (PySem.W.fnOf "_law_sum" "_law_sum" (aG jz) (aF jz) (ai jz) .none kV37 dc37 pm37 an37 cd37 ct37), sl37⟩)
  (c37 : PySem.W.codeIn K cd37 "_law_sum" = true) (k37 : PySem.W.keepIn K (.ref f37) = true)
  (a38 : PySem.W.nsIn K mainGlobals "_law_bound_kinds" = some (some (.ref f38)))
  (l38 : K.lookup f38 = some ⟨oc38, od38, .func (PySem.W.fnOf "_law_bound_kinds" "_law_bound_kinds" (aG bA) (aF bA) (ai bA) .none kV38 dc38 pm38 an38 cd38 ct38), sl38⟩)
  (c38 : PySem.W.codeIn K cd38 "_law_bound_kinds" = true) (k38 : PySem.W.keepIn K (.ref f38) = true)
  (a39 : PySem.W.nsIn K mainGlobals "_law_def" = some (some (.ref f39)))
  (l39 : K.lookup f39 = some ⟨oc39, od39, .func (PySem.W.fnOf "_law_def" "_law_def" (aG jr) (aF jr) (ai jr) .none kV39 dc39 pm39 an39 cd39 ct39), sl39⟩)
  (c39 : PySem.W.codeIn K cd39 "_law_def" = true) (k39 : PySem.W.keepIn K (.ref f39) = true)
  (a40 : PySem.W.nsIn K mainGlobals "_law_program" = some (some (.ref f40)))
  (l40 : K.lookup f40 = some ⟨oc40, od40, .func (PySem.W.fnOf "_law_program" "_law_program" (aG dj) (aF dj) (ai dj) .none kV40 dc40 pm40 an40 cd40 ct40), sl40⟩)
  (c40 : PySem.W.codeIn K cd40 "_law_program" = true) (k40 : PySem.W.keepIn K (.ref f40) = true)
  (a41 : PySem.W.nsIn K mainGlobals "law" = some (some (.ref f41)))
  (l41 : K.lookup f41 = some ⟨oc41, od41, .func (PySem.W.fnOf "law" "law" (aG fk) (aF fk) (ai fk) .none kV41 dc41 pm41 an41 cd41 ct41), sl41⟩)
  (c41 : PySem.W.codeIn K cd41 "law" = true) (k41 : PySem.W.keepIn K (.ref f41) = true)
  (z1 : PySem.W.nsIn K mainGlobals "len" = some none)
  (z2 : PySem.W.nsIn K mainGlobals "isinstance" = some none)
  (z3 : PySem.W.nsIn K mainGlobals "int" = some none)
  (z4 : PySem.W.nsIn K mainGlobals "bool" = some none)
  (z5 : PySem.W.nsIn K mainGlobals "str" = some none)
  (z6 : PySem.W.nsIn K mainGlobals "tuple" = some none)
  (z7 : PySem.W.nsIn K mainGlobals "list" = some none)
  (z8 : PySem.W.nsIn K mainGlobals "all" = some none)
  (z9 : PySem.W.nsIn K mainGlobals "zip" = some none)
  (z10 : PySem.W.nsIn K mainGlobals "range" = some none)
  (z11 : PySem.W.nsIn K mainGlobals "enumerate" = some none)
  (z12 : PySem.W.nsIn K mainGlobals "max" = some none)
  (z13 : PySem.W.nsIn K mainGlobals "set" = some none)
  (z14 : PySem.W.nsIn K mainGlobals "sorted" = some none)
  (z15 : PySem.W.nsIn K mainGlobals "reversed" = some none)
  {tg0 tg1 tg2 tg3 tg4 tg5 tg6 tg7 : Tok}
  (zg0 : PySem.W.nsIn K mainGlobals "LONGEST_NAME" = some (some (.int 8 tg0)))
  (zg1 : PySem.W.nsIn K mainGlobals "GREATEST_SIZE" = some (some (.int 12 tg1)))
  (zg2 : PySem.W.nsIn K mainGlobals "GREATEST_NUMBER" = some (some (.int 99 tg2)))
  (zg3 : PySem.W.nsIn K mainGlobals "WHOLE_BOUND" = some (some (.int 1000000000000 tg3)))
  (zg4 : PySem.W.nsIn K mainGlobals "MOST_NODES" = some (some (.int 40 tg4)))
  (zg5 : PySem.W.nsIn K mainGlobals "MOST_ABOVE" = some (some (.int 7 tg5)))
  (zg6 : PySem.W.nsIn K mainGlobals "MOST_THINGS" = some (some (.int 4 tg6)))
  (zg7 : PySem.W.nsIn K mainGlobals "MOST_ROWS" = some (some (.int 12 tg7)))
  {gR : Addr} {odR : Option Addr} {nR : Nat} {slR : Array (Option Value)} {tr0 tr1 tr2 tr3 tr4 : Tok}
  (zR : PySem.W.nsIn K mainGlobals "RECKONS" = some (some (.ref gR)))
  (lR : K.lookup gR = some ⟨.type "tuple", odR, .seq #[.str "plus" tr0, .str "minus" tr1, .str "times" tr2, .str "less" tr3, .str "same" tr4] nR, slR⟩)
  {gS : Addr}
  (zS : PySem.W.nsIn K mainGlobals "SHAPES" = some (some (.ref gS)))
  (sS : XB.Shp l.prog w K gS)
  :
  ∃ fd : FuncData, (∀ (s : Shared) (v : Value), BindsTo s fd ⟨[v], []⟩ [("_law_script", v)]) /\ ∀ base : Heap, K.In base -> base.Ns mainGlobals mg -> bi l.prog w K mg base CX0 14 fa fd ["_law_script"] (ph K) := by
 have e := hfa.symm.trans (PySem.W.mg_of X G a41)
 cases e
 have T : Txt K mg := ⟨PySem.W.mg_none_of X G z1, PySem.W.mg_none_of X G z2, PySem.W.mg_none_of X G z3, PySem.W.mg_none_of X G z4, PySem.W.mg_none_of X G z5, PySem.W.mg_none_of X G z6, PySem.W.mg_none_of X G z7, PySem.W.mg_none_of X G z8, PySem.W.mg_none_of X G z9, PySem.W.mg_none_of X G z10, PySem.W.mg_none_of X G z11, PySem.W.mg_none_of X G z12, PySem.W.mg_none_of X G z13, PySem.W.mg_none_of X G z14, PySem.W.mg_none_of X G z15, ⟨tg0, PySem.W.mg_of X G zg0⟩, ⟨tg1, PySem.W.mg_of X G zg1⟩, ⟨tg2, PySem.W.mg_of X G zg2⟩, ⟨tg3, PySem.W.mg_of X G zg3⟩, ⟨tg4, PySem.W.mg_of X G zg4⟩, ⟨tg5, PySem.W.mg_of X G zg5⟩, ⟨tg6, PySem.W.mg_of X G zg6⟩, ⟨tg7, PySem.W.mg_of X G zg7⟩⟩
 have F1 := aP (st := cG) l1 c1 k1
 have b1 := F1.binds (ps := ["thing"]) fun _ _ _ _ _ _ => us1 fun _ => rfl
 have F2 := aP (st := di) l2 c2 k2
 have b2 := F2.binds (ps := ["thing"]) fun _ _ _ _ _ _ => us1 fun _ => rfl
 have F3 := aP (st := dg) l3 c3 k3
 have b3 := F3.binds (ps := ["thing"]) fun _ _ _ _ _ _ => us1 fun _ => rfl
 have F4 := aP (st := cv) l4 c4 k4
 have b4 := F4.binds (ps := ["thing"]) fun _ _ _ _ _ _ => us1 fun _ => rfl
 have F5 := aP (st := cr) l5 c5 k5
 have b5 := F5.binds (ps := ["thing"]) fun _ _ _ _ _ _ => us1 fun _ => rfl
 have F6 := aP (st := cP) l6 c6 k6
 have b6 := F6.binds (ps := ["thing"]) fun _ _ _ _ _ _ => us1 fun _ => rfl
 have F7 := aP (st := cH) l7 c7 k7
 have b7 := F7.binds (ps := ["thing"]) fun _ _ _ _ _ _ => us1 fun _ => rfl
 have F8 := aP (st := cJ) l8 c8 k8
 have b8 := F8.binds (ps := ["thing"]) fun _ _ _ _ _ _ => us1 fun _ => rfl
 have F9 := aP (st := bD) l9 c9 k9
 have b9 := F9.binds (ps := ["point"]) fun _ _ _ _ _ _ => us1 fun _ => rfl
 have F10 := aP (st := du) l10 c10 k10
 have b10 := F10.binds (ps := ["thing"]) fun _ _ _ _ _ _ => us1 fun _ => rfl
 have F11 := aP (st := cE) l11 c11 k11
 have b11 := F11.binds (ps := ["thing", "bound"]) fun _ _ _ _ _ _ => us2 fun _ _ => rfl
 have F12 := aP (st := bL) l12 c12 k12
 have b12 := F12.binds (ps := ["thing"]) fun _ _ _ _ _ _ => us1 fun _ => rfl
 have F13 := aP (st := dY) l13 c13 k13
 have b13 := F13.binds (ps := ["thing", "least"]) fun _ _ _ _ _ _ => us2 fun _ _ => rfl
 have F14 := aP (st := gy) l14 c14 k14
 have b14 := F14.binds (ps := ["sort", "thing"]) fun _ _ _ _ _ _ => us2 fun _ _ => rfl
 have F15 := aP (st := de) l15 c15 k15
 have b15 := F15.binds (ps := ["thing"]) fun _ _ _ _ _ _ => us1 fun _ => rfl
 have F16 := aP (st := cK) l16 c16 k16
 have b16 := F16.binds (ps := ["node"]) fun _ _ _ _ _ _ => us1 fun _ => rfl
 have F17 := aP (st := dm) l17 c17 k17
 have b17 := F17.binds (ps := ["thing"]) fun _ _ _ _ _ _ => us1 fun _ => rfl
 have F18 := aP (st := ck) l18 c18 k18
 have b18 := F18.binds (ps := ["point"]) fun _ _ _ _ _ _ => us1 fun _ => rfl
 have F19 := aP (st := cL) l19 c19 k19
 have b19 := F19.binds (ps := ["whole", "parts_of"]) fun _ _ _ _ _ _ => us2 fun _ _ => rfl
 have F20 := aP (st := cq) l20 c20 k20
 have b20 := F20.binds (ps := ["kind"]) fun _ _ _ _ _ _ => us1 fun _ => rfl
 have F21 := aP (st := cp) l21 c21 k21
 have b21 := F21.binds (ps := ["thing"]) fun _ _ _ _ _ _ => us1 fun _ => rfl
 have F22 := aP (st := cI) l22 c22 k22
 have b22 := F22.binds (ps := ["thing"]) fun _ _ _ _ _ _ => us1 fun _ => rfl
 have F23 := aP (st := bV) l23 c23 k23
 have b23 := F23.binds (ps := ["thing"]) fun _ _ _ _ _ _ => us1 fun _ => rfl
 have F24 := aP (st := eh) l24 c24 k24
 have b24 := F24.binds (ps := ["thing"]) fun _ _ _ _ _ _ => us1 fun _ => rfl
 have F25 := aP (st := cO) l25 c25 k25
 have b25 := F25.binds (ps := ["things"]) fun _ _ _ _ _ _ => us1 fun _ => rfl
 have F26 := aP (st := dq) l26 c26 k26
 have b26 := F26.binds (ps := ["length", "bound"]) fun _ _ _ _ _ _ => us2 fun _ _ => rfl
 have F27 := aP (st := bR) l27 c27 k27
 have b27 := F27.binds (ps := ["point", "fresh", "names"]) fun _ _ _ _ _ _ => us3 fun _ _ _ => rfl
 have F28 := aP (st := cm) l28 c28 k28
 have b28 := F28.binds (ps := ["names", "params"]) fun _ _ _ _ _ _ => us2 fun _ _ => rfl
 have F29 := aP (st := cw) l29 c29 k29
 have b29 := F29.binds (ps := ["rows"]) fun _ _ _ _ _ _ => us1 fun _ => rfl
 have F30 := aP (st := cu) l30 c30 k30
 have b30 := F30.binds (ps := ["rows"]) fun _ _ _ _ _ _ => us1 fun _ => rfl
 have F31 := aP (st := ca) l31 c31 k31
 have b31 := F31.binds (ps := ["rows"]) fun _ _ _ _ _ _ => us1 fun _ => rfl
 have F32 := aP (st := dr) l32 c32 k32
 have b32 := F32.binds (ps := ["thing"]) fun _ _ _ _ _ _ => us1 fun _ => rfl
 have F33 := aP (st := fe) l33 c33 k33
 have b33 := F33.binds (ps := ["_law_cells", "_law_many"]) fun _ _ _ _ _ _ => us2 fun _ _ => rfl
 have F34 := aP (st := fA) l34 c34 k34
 have b34 := F34.binds (ps := ["_law_draws_here"]) fun _ _ _ _ _ _ => us1 fun _ => rfl
 have F35 := aP (st := ff) l35 c35 k35
 have b35 := F35.binds (ps := ["_law_cell"]) fun _ _ _ _ _ _ => us1 fun _ => rfl
 have F36 := aP (st := bY) l36 c36 k36
 have b36 := F36.binds (ps := ["_law_draws_here", "_law_names_here"]) fun _ _ _ _ _ _ => us2 fun _ _ => rfl
 have F37 := aP (st := jz) l37 c37 k37
 have b37 := F37.binds (ps := ["_law_draws_here", "_law_told", "_law_new"]) fun _ _ _ _ _ _ => us3 fun _ _ _ => rfl
 have F38 := aP (st := bA) l38 c38 k38
 have b38 := F38.binds (ps := ["_law_order", "_law_draws_here"]) fun _ _ _ _ _ _ => us2 fun _ _ => rfl
 have F39 := aP (st := jr) l39 c39 k39
 have b39 := F39.binds (ps := ["_law_f", "_law_draws_here", "_law_names_here"]) fun _ _ _ _ _ _ => us3 fun _ _ _ => rfl
 have F40 := aP (st := dj) l40 c40 k40
 have b40 := F40.binds (ps := ["_law_script", "_law_names_here"]) fun _ _ _ _ _ _ => us2 fun _ _ => rfl
 have F41 := aP (st := fk) l41 c41 k41
 refine ⟨PySem.W.fnOf "law" "law" (aG fk) (aF fk) (ai fk) .none kV41 dc41 pm41 an41 cd41 ct41, fun s v => .of_eq rfl, fun base _ _ => ?_⟩
 have hRK : ∀ H, SqT K H gR (sU.map V.str) := fun H => .inr ⟨_, _, _, lR, rfl, rfl, (by show 5 <= sizeLine; rw [sizeLine_eq]; decide), .cons ⟨_, rfl⟩ (.cons ⟨_, rfl⟩ (.cons ⟨_, rfl⟩ (.cons ⟨_, rfl⟩ (.cons ⟨_, rfl⟩ .nil))))⟩
 have D1 : Def l.prog w K mg base 1 "is_whole" ["thing"] (spD cf) := ⟨f1, _, mf F1 T, b1, k1, PySem.W.mg_of X G a1⟩
 have D2 : Def l.prog w K mg base 1 "is_name" ["thing"] (spS bJ) := ⟨f2, _, nB F2 T, b2, k2, PySem.W.mg_of X G a2⟩
 have D3 : Def l.prog w K mg base 2 "is_part" ["thing"] (spS eT) := ⟨f3, _, nA (k := 1) F3 T (D1.up (by decide)) (D2.up (by decide)), b3, k3, PySem.W.mg_of X G a3⟩
 have D4 : Def l.prog w K mg base 3 "are_parts" ["thing"] (spS gJ) := ⟨f4, _, kx (k := 2) F4 T (D3.up (by decide)), b4, k4, PySem.W.mg_of X G a4⟩
 have D5 : Def l.prog w K mg base 4 "is_length" ["thing"] (spS ko) := ⟨f5, _, jS (k := 3) F5 T (D1.up (by decide)) (D4.up (by decide)), b5, k5, PySem.W.mg_of X G a5⟩
 have D6 : Def l.prog w K mg base 5 "is_small_length" ["thing"] (spS slD) := ⟨f6, _, mh (k := 4) F6 T (D5.up (by decide)), b6, k6, PySem.W.mg_of X G a6⟩
 have D7 : Def l.prog w K mg base 1 "has_word" ["thing"] (spD eI) := ⟨f7, _, ll F7 T, b7, k7, PySem.W.mg_of X G a7⟩
 have D8 : Def l.prog w K mg base 6 "is_point" ["thing"] (spS cT) := ⟨f8, _, mO (k := 5) F8 T (D7.up (by decide)) (D6.up (by decide)), b8, k8, PySem.W.mg_of X G a8⟩
 have D9 : Def l.prog w K mg base 1 "things_of" ["point"] sn := ⟨f9, _, np F9 T, b9, k9, PySem.W.mg_of X G a9⟩
 have D10 : Def l.prog w K mg base 7 "is_kind" ["thing"] fW := ⟨f10, _, nG (k := 6) F10 T (D8.up (by decide)) (D9.up (by decide)), b10, k10, PySem.W.mg_of X G a10⟩
 have D11 : Def l.prog w K mg base 2 "is_below" ["thing", "bound"] kh := ⟨f11, _, mw (k := 1) F11 T (D1.up (by decide)), b11, k11, PySem.W.mg_of X G a11⟩
 have D13 : Def l.prog w K mg base 1 "is_few" ["thing", "least"] mM := ⟨f13, _, pZ F13 T, b13, k13, PySem.W.mg_of X G a13⟩
 have D12 : Def l.prog w K mg base 2 "is_def_name" ["thing"] (spS fO) := ⟨f12, _, iJ (k := 1) F12 T sS (PySem.W.mg_of X G zS) (PySem.W.mg_of X G zR) hRK (D2.up (by decide)), b12, k12, PySem.W.mg_of X G a12⟩
 have D14 : Def l.prog w K mg base 8 "fits" ["sort", "thing"] nS := ⟨f14, _, ud (k := 7) F14 T (PySem.W.mg_of X G zR) hRK (D11.up (by decide)) (D2.up (by decide)) (D6.up (by decide)) (D10.up (by decide)) (D12.up (by decide)) (D13.up (by decide)), b14, k14, PySem.W.mg_of X G a14⟩
 have D15 : Def l.prog w K mg base 9 "is_node" ["thing"] (spS eG) := ⟨f15, _, nb (k := 8) F15 T sS (PySem.W.mg_of X G zS) (D7.up (by decide)) (D14.up (by decide)), b15, k15, PySem.W.mg_of X G a15⟩
 have D16 : Def l.prog w K mg base 1 "parts_of" ["node"] jZ := ⟨f16, _, lJ F16 T sS (PySem.W.mg_of X G zS), b16, k16, PySem.W.mg_of X G a16⟩
 have D17 : Def l.prog w K mg base 10 "is_expression" ["thing"] ip := ⟨f17, _, nQ (k := 9) F17 T (D15.up (by decide)) (D16.up (by decide)), b17, k17, PySem.W.mg_of X G a17⟩
 have D18 : Def l.prog w K mg base 1 "length_at" ["point"] lb := ⟨f18, _, kw F18 T, b18, k18, PySem.W.mg_of X G a18⟩
 have D19 : Def l.prog w K mg base 2 "in_order" ["whole", "parts_of"] (gu f9) := ⟨f19, _, ma (k0 := 1) F19 T (kY F9 T) k9 b9, b19, k19, PySem.W.mg_of X G a19⟩
 have D20 : Def l.prog w K mg base 3 "points_of" ["kind"] fw := ⟨f20, _, ka (k0 := 2) F20 T D19 (PySem.W.mg_of X G a9), b20, k20, PySem.W.mg_of X G a20⟩
 have D21 : Def l.prog w K mg base 2 "are_names" ["thing"] (spS eR) := ⟨f21, _, kE (k := 1) F21 T (D13.up (by decide)) (D2.up (by decide)), b21, k21, PySem.W.mg_of X G a21⟩
 have D22 : Def l.prog w K mg base 8 "is_param" ["thing"] (spS eF) := ⟨f22, _, le (k := 7) F22 T (D2.up (by decide)) (D10.up (by decide)), b22, k22, PySem.W.mg_of X G a22⟩
 have D23 : Def l.prog w K mg base 9 "are_params" ["thing"] (spS dN) := ⟨f23, _, jc (k := 8) F23 T (D13.up (by decide)) (D22.up (by decide)), b23, k23, PySem.W.mg_of X G a23⟩
 have D24 : Def l.prog w K mg base 11 "is_row" ["thing"] (spS dH) := ⟨f24, _, qK (k := 10) F24 T (D7.up (by decide)) (D17.up (by decide)) (D12.up (by decide)) (D21.up (by decide)) (D23.up (by decide)), b24, k24, PySem.W.mg_of X G a24⟩
 have D25 : Def l.prog w K mg base 1 "is_twice" ["things"] (jQ K) := ⟨f25, _, lA F25 T, b25, k25, PySem.W.mg_of X G a25⟩
 have D26 : Def l.prog w K mg base 1 "unbound" ["length", "bound"] rH := ⟨f26, _, oA F26 T, b26, k26, PySem.W.mg_of X G a26⟩
 have D27 : Def l.prog w K mg base 1 "may_stand" ["point", "fresh", "names"] qX := ⟨f27, _, kZ F27 T, b27, k27, PySem.W.mg_of X G a27⟩
 have D28 : Def l.prog w K mg base 4 "are_bound" ["names", "params"] ki := ⟨f28, _, jY (k := 3) F28 T (D20.up (by decide)) (D18.up (by decide)) (D26.up (by decide)) (D27.up (by decide)), b28, k28, PySem.W.mg_of X G a28⟩
 have D29 : Def l.prog w K mg base 12 "hold_rows" ["rows"] (et fun rs => ∀ r ∈ rs, dH r.dv = true /\ r.dv.small = true) := ⟨f29, _, kX (k := 11) F29 T (D24.up (by decide)), b29, k29, PySem.W.mg_of X G a29⟩
 have D30 : Def l.prog w K mg base 2 "hold_once" ["rows"] (et fun rs => (∀ r ∈ rs, r.Ok) /\ (rs.flatMap Rw.f?).Nodup) := ⟨f30, _, kc (k := 1) F30 T (D25.up (by decide)), b30, k30, PySem.W.mg_of X G a30⟩
 have D31 : Def l.prog w K mg base 5 "hold_bound" ["rows"] (et fun rs => ∀ r ∈ rs, r.Ok) := ⟨f31, _, jh (k := 4) F31 T (D28.up (by decide)), b31, k31, PySem.W.mg_of X G a31⟩
 have D32 : Def l.prog w K mg base 13 "checked" ["thing"] gq := ⟨f32, _, nK (k := 12) F32 T (D29.up (by decide)) (D30.up (by decide)) (D31.up (by decide)), b32, k32, PySem.W.mg_of X G a32⟩
 have D33 : Def l.prog w K mg base 1 "_law_draws" ["_law_cells", "_law_many"] (ia K) := ⟨f33, _, tJ F33 T, b33, k33, PySem.W.mg_of X G a33⟩
 have D34 : Def l.prog w K mg base 1 "_law_next" ["_law_draws_here"] fB := ⟨f34, _, tZ F34 T, b34, k34, PySem.W.mg_of X G a34⟩
 have D35 : Def l.prog w K mg base 1 "_law_names" ["_law_cell"] kP := ⟨f35, _, tF F35 T, b35, k35, PySem.W.mg_of X G a35⟩
 have D36 : Def l.prog w K mg base 2 "_law_expression" ["_law_draws_here", "_law_names_here"] kL := ⟨f36, _, iX (k := 1) F36 T (D34.up (by decide)), b36, k36, PySem.W.mg_of X G a36⟩
 have D37 : Def l.prog w K mg base 2 "_law_sum" ["_law_draws_here", "_law_told", "_law_new"] sH := ⟨f37, _, ww (k := 1) F37 T (D34.up (by decide)), b37, k37, PySem.W.mg_of X G a37⟩
 have D38 : Def l.prog w K mg base 3 "_law_bound_kinds" ["_law_order", "_law_draws_here"] wF := ⟨f38, _, iW (k := 2) F38 T (D34.up (by decide)) (D37.up (by decide)), b38, k38, PySem.W.mg_of X G a38⟩
 have D39 : Def l.prog w K mg base 4 "_law_def" ["_law_f", "_law_draws_here", "_law_names_here"] sP := ⟨f39, _, vH (k := 3) F39 T (D34.up (by decide)) (D38.up (by decide)) (D36.up (by decide)), b39, k39, PySem.W.mg_of X G a39⟩
 have D40 : Def l.prog w K mg base 5 "_law_program" ["_law_script", "_law_names_here"] (oq K) := ⟨f40, _, nZ (k := 4) F40 T (D33.up (by decide)) (D34.up (by decide)) (D36.up (by decide)) (D39.up (by decide)), b40, k40, PySem.W.mg_of X G a40⟩
 exact wC (k0 := 13) F41 T (D33.up (by decide)) (D35.up (by decide)) (D40.up (by decide)) (D32.up (by decide))
theorem walk {l : PySem.W.OpenLaw} {q : Program} {loose : List Str} {XP : (Str -> Option Value) -> Heap -> Prop} {YP : World -> Heap -> Prop} {d : DefRec} {K : Params -> PySem.W.Frag} (hn : l.most = some 63) (hdf : d.params.defaults = [])
  (hY : ∀ (w : World) (h : Heap), YP w h -> (K w.params).In h)
  (F : ∀ (w : World) (mg : Str -> Option Value) (fa : Addr) (h : Heap), (K w.params).In h -> h.Ns mainGlobals mg -> mg d.name = some (.ref fa) ->
   ∃ fd : FuncData, (∀ (s : Shared) (u : Value), BindsTo s fd ⟨[u], []⟩ [("_law_script", u)]) /\ ∀ base : Heap, (K w.params).In base -> base.Ns mainGlobals mg -> bi l.prog w (K w.params) mg base CX0 14 fa fd ["_law_script"] (ph (K w.params))) :
  PySem.W.WalkO q loose XP YP l.row.toRowW d [] (fun f vs => PySem.call f vs) :=
 L2.walk_of (n := 63) (k := 14) (x := "_law_script") (CX := fun _ => CX0) (sp := fun w => ph (K w.params)) hn (by decide) hdf ⟨rfl, by decide, by decide⟩ hY F (fun _ _ a ns hl _ hS => ⟨a, ns, rfl, hS, hl, fun _ => rfl⟩) fun _ _ _ _ _ z => z
end K24
def PySem.W.Fast.tw2522360225484297073 : Nat := 0
def PySem.W.Fast.tw5495627939437918006 : Nat := 0
def PySem.W.Fast.tw2233235478798734042 : Nat := 0
def PySem.W.Fast.tw16201484330436128381 : Nat := 0
def PySem.W.Fast.tw4947363307497614619 : Nat := 0
def PySem.W.Fast.tw3329024939852740078 : Nat := 0
def PySem.W.Fast.tw10864416075363589337 : Nat := 0
def PySem.W.Fast.tw10958035604913129601 : Nat := 0
def PySem.W.Fast.tw7171347834504915963 : Nat := 0
def PySem.W.Fast.tw10281939561787768102 : Nat := 0
def PySem.W.Fast.tw3014766819012812042 : Nat := 0
def PySem.W.Fast.tw5145403605669210262 : Nat := 0
def PySem.W.Fast.tw14642620778426997312 : Nat := 0
def PySem.W.Fast.tw13229083647870270776 : Nat := 0
def PySem.W.Fast.tw17593227808359059973 : Nat := 0
def PySem.W.Fast.tw6670372401408235546 : Nat := 0
def PySem.W.Fast.tw3295824966128747348 : Nat := 0
def PySem.W.Fast.tw7449153322400416714 : Nat := 0
def PySem.W.Fast.tw16879505087337218733 : Nat := 0
def PySem.W.Fast.tw257416495412345900 : Nat := 0
def PySem.W.Fast.tw12064455492303944818 : Nat := 0
def PySem.W.Fast.tw631111498343046187 : Nat := 0
def PySem.W.Fast.tw2655346353477412193 : Nat := 0
def PySem.W.Fast.tw16041284645594565591 : Nat := 0
def PySem.W.Fast.tw12078237949467222099 : Nat := 0
def PySem.W.Fast.tw17069585343310703519 : Nat := 0
def PySem.W.Fast.tw14444192948278558747 : Nat := 0
def PySem.W.Fast.tw6508160818451415083 : Nat := 0
def PySem.W.Fast.tw14335299898430237244 : Nat := 0
def PySem.W.Fast.tw12724067947325600949 : Nat := 0
def PySem.W.Fast.tw6504161090296805584 : Nat := 0
def PySem.W.Fast.tw11512840222058877636 : Nat := 0
def PySem.W.Fast.tw2777328378935299480 : Nat := 0
def PySem.W.Fast.tw18064456618741570771 : Nat := 0
def PySem.W.Fast.tw17525288989243982711 : Nat := 0
def PySem.W.Fast.tw9423065487321844557 : Nat := 0
def PySem.W.Fast.tw17029672415665145038 : Nat := 0
def PySem.W.Fast.tw5403240681788017300 : Nat := 0
def PySem.W.Fast.tw12966495788876453213 : Nat := 0
def PySem.W.Fast.tw15359060806003478943 : Nat := 0
def PySem.W.Fast.tw14485621124520913951 : Nat := 0
def PySem.W.Fast.tw8534558634802041794 : Nat := 0
def PySem.W.Fast.tw17354190099301234140 : Nat := 0
def PySem.W.Fast.tw15158127781678078519 : Nat := 0
def PySem.W.Fast.tw9633654590295871442 : Nat := 0
def PySem.W.Fast.tw15224345702981503983 : Nat := 0
def PySem.W.Fast.tw13858855674195127934 : Nat := 0
def PySem.W.Fast.tw3595231729489308762 : Nat := 0
def PySem.W.Fast.tw10810311668347681207 : Nat := 0
def PySem.W.Fast.tw4841709312351958362 : Nat := 0
open PySem PySem.W PyProof.Rows
set_option maxRecDepth 100000 in
set_option maxHeartbeats 0 in
theorem PySem.Challenge.cw_indexwise_k24_programs_checked_holds : PySem.Challenge.rw_indexwise_k24_programs_checked.Holds := by
 w_on; o_law; k_head; (case hw => w_witness2)
 k_fill
 refine K24.walk (l := PySem.Challenge.rw_indexwise_k24_programs_checked) rfl rfl (fun w h Y => PySem.W.kIn_of Y) ?F
 case F =>
  intro w mg fa h KX G hmg
  refine' K24.all_mk KX G hmg ?a1 ?l1 ?c1 ?k1 ?a2 ?l2 ?c2 ?k2 ?a3 ?l3 ?c3 ?k3 ?a4 ?l4 ?c4 ?k4 ?a5 ?l5 ?c5 ?k5 ?a6 ?l6 ?c6 ?k6 ?a7 ?l7 ?c7 ?k7 ?a8 ?l8 ?c8 ?k8 ?a9 ?l9 ?c9 ?k9 ?a10 ?l10 ?c10 ?k10 ?a11 ?l11 ?c11 ?k11 ?a12 ?l12 ?c12 ?k12 ?a13 ?l13 ?c13 ?k13 ?a14 ?l14 ?c14 ?k14 ?a15 ?l15 ?c15 ?k15 ?a16 ?l16 ?c16 ?k16 ?a17 ?l17 ?c17 ?k17 ?a18 ?l18 ?c18 ?k18 ?a19 ?l19 ?c19 ?k19 ?a20 ?l20 ?c20 ?k20 ?a21 ?l21 ?c21 ?k21 ?a22 ?l22 ?c22 ?k22 ?a23 ?l23 ?c23 ?k23 ?a24 ?l24 ?c24 ?k24 ?a25 ?l25 ?c25 ?k25 ?a26 ?l26 ?c26 ?k26 ?a27 ?l27 ?c27 ?k27 ?a28 ?l28 ?c28 ?k28 ?a29 ?l29 ?c29 ?k29 ?a30 ?l30 ?c30 ?k30 ?a31 ?l31 ?c31 ?k31 ?a32 ?l32 ?c32 ?k32 ?a33 ?l33 ?c33 ?k33 ?a34 ?l34 ?c34 ?k34 ?a35 ?l35 ?c35 ?k35 ?a36 ?l36 ?c36 ?k36 ?a37 ?l37 ?c37 ?k37 ?a38 ?l38 ?c38 ?k38 ?a39 ?l39 ?c39 ?k39 ?a40 ?l40 ?c40 ?k40 ?a41 ?l41 ?c41 ?k41 ?z1 ?z2 ?z3 ?z4 ?z5 ?z6 ?z7 ?z8 ?z9 ?z10 ?z11 ?z12 ?z13 ?z14 ?z15 ?zg0 ?zg1 ?zg2 ?zg3 ?zg4 ?zg5 ?zg6 ?zg7 ?zR ?lR ?zS ?sS
  (case a1 => k_is); (case l1 => k_is); (case c1 => k_is); (case k1 => k_is)
  (case a2 => k_is); (case l2 => k_is); (case c2 => k_is); (case k2 => k_is)
  (case a3 => k_is); (case l3 => k_is); (case c3 => k_is); (case k3 => k_is)
  (case a4 => k_is); (case l4 => k_is); (case c4 => k_is); (case k4 => k_is)
  (case a5 => k_is); (case l5 => k_is); (case c5 => k_is); (case k5 => k_is)
  (case a6 => k_is); (case l6 => k_is); (case c6 => k_is); (case k6 => k_is)
  (case a7 => k_is); (case l7 => k_is); (case c7 => k_is); (case k7 => k_is)
  (case a8 => k_is); (case l8 => k_is); (case c8 => k_is); (case k8 => k_is)
  (case a9 => k_is); (case l9 => k_is); (case c9 => k_is); (case k9 => k_is)
  (case a10 => k_is); (case l10 => k_is); (case c10 => k_is); (case k10 => k_is)
  (case a11 => k_is); (case l11 => k_is); (case c11 => k_is); (case k11 => k_is)
  (case a12 => k_is); (case l12 => k_is); (case c12 => k_is); (case k12 => k_is)
  (case a13 => k_is); (case l13 => k_is); (case c13 => k_is); (case k13 => k_is)
  (case a14 => k_is); (case l14 => k_is); (case c14 => k_is); (case k14 => k_is)
  (case a15 => k_is); (case l15 => k_is); (case c15 => k_is); (case k15 => k_is)
  (case a16 => k_is); (case l16 => k_is); (case c16 => k_is); (case k16 => k_is)
  (case a17 => k_is); (case l17 => k_is); (case c17 => k_is); (case k17 => k_is)
  (case a18 => k_is); (case l18 => k_is); (case c18 => k_is); (case k18 => k_is)
  (case a19 => k_is); (case l19 => k_is); (case c19 => k_is); (case k19 => k_is)
  (case a20 => k_is); (case l20 => k_is); (case c20 => k_is); (case k20 => k_is)
  (case a21 => k_is); (case l21 => k_is); (case c21 => k_is); (case k21 => k_is)
  (case a22 => k_is); (case l22 => k_is); (case c22 => k_is); (case k22 => k_is)
  (case a23 => k_is); (case l23 => k_is); (case c23 => k_is); (case k23 => k_is)
  (case a24 => k_is); (case l24 => k_is); (case c24 => k_is); (case k24 => k_is)
  (case a25 => k_is); (case l25 => k_is); (case c25 => k_is); (case k25 => k_is)
  (case a26 => k_is); (case l26 => k_is); (case c26 => k_is); (case k26 => k_is)
  (case a27 => k_is); (case l27 => k_is); (case c27 => k_is); (case k27 => k_is)
  (case a28 => k_is); (case l28 => k_is); (case c28 => k_is); (case k28 => k_is)
  (case a29 => k_is); (case l29 => k_is); (case c29 => k_is); (case k29 => k_is)
  (case a30 => k_is); (case l30 => k_is); (case c30 => k_is); (case k30 => k_is)
  (case a31 => k_is); (case l31 => k_is); (case c31 => k_is); (case k31 => k_is)
  (case a32 => k_is); (case l32 => k_is); (case c32 => k_is); (case k32 => k_is)
  (case a33 => k_is); (case l33 => k_is); (case c33 => k_is); (case k33 => k_is)
  (case a34 => k_is); (case l34 => k_is); (case c34 => k_is); (case k34 => k_is)
  (case a35 => k_is); (case l35 => k_is); (case c35 => k_is); (case k35 => k_is)
  (case a36 => k_is); (case l36 => k_is); (case c36 => k_is); (case k36 => k_is)
  (case a37 => k_is); (case l37 => k_is); (case c37 => k_is); (case k37 => k_is)
  (case a38 => k_is); (case l38 => k_is); (case c38 => k_is); (case k38 => k_is)
  (case a39 => k_is); (case l39 => k_is); (case c39 => k_is); (case k39 => k_is)
  (case a40 => k_is); (case l40 => k_is); (case c40 => k_is); (case k40 => k_is)
  (case a41 => k_is); (case l41 => k_is); (case c41 => k_is); (case k41 => k_is)
  (case z1 => k_is); (case z2 => k_is); (case z3 => k_is); (case z4 => k_is); (case z5 => k_is); (case z6 => k_is); (case z7 => k_is); (case z8 => k_is); (case z9 => k_is); (case z10 => k_is); (case z11 => k_is); (case z12 => k_is); (case z13 => k_is); (case z14 => k_is); (case z15 => k_is); (case zg0 => k_is); (case zg1 => k_is); (case zg2 => k_is); (case zg3 => k_is); (case zg4 => k_is); (case zg5 => k_is); (case zg6 => k_is); (case zg7 => k_is); (case zR => k_is); (case lR => k_is); (case zS => k_is)
  case sS =>
   refine' XB.shp_mk ?xShl ?xSlo ?xShe ?xSht
   (case xShl => k_is)
   (case xSlo => decide)
   (case xShe => repeat (first | exact XB.Ents.nil | refine XB.Ents.cons ?_))
   case xSht =>
    refine' (XB.TupsK.cons ?xSa1 ?xSb1 (XB.TupsK.cons ?xSa2 ?xSb2 (XB.TupsK.cons ?xSa3 ?xSb3 (XB.TupsK.cons ?xSa4 ?xSb4 (XB.TupsK.cons ?xSa5 ?xSb5 (XB.TupsK.cons ?xSa6 ?xSb6 (XB.TupsK.cons ?xSa7 ?xSb7 (XB.TupsK.cons ?xSa8 ?xSb8 (XB.TupsK.cons ?xSa9 ?xSb9 (XB.TupsK.cons ?xSa10 ?xSb10 (XB.TupsK.cons ?xSa11 ?xSb11 (XB.TupsK.cons ?xSa12 ?xSb12 (XB.TupsK.cons ?xSa13 ?xSb13 (XB.TupsK.cons ?xSa14 ?xSb14 (XB.TupsK.cons ?xSa15 ?xSb15 (XB.TupsK.cons ?xSa16 ?xSb16 (XB.TupsK.cons ?xSa17 ?xSb17 (XB.TupsK.cons ?xSa18 ?xSb18 (XB.TupsK.cons ?xSa19 ?xSb19 (XB.TupsK.cons ?xSa20 ?xSb20 (XB.TupsK.cons ?xSa21 ?xSb21 (XB.TupsK.cons ?xSa22 ?xSb22 (XB.TupsK.cons ?xSa23 ?xSb23 (XB.TupsK.cons ?xSa24 ?xSb24 (XB.TupsK.cons ?xSa25 ?xSb25 (XB.TupsK.cons ?xSa26 ?xSb26 (XB.TupsK.cons ?xSa27 ?xSb27 XB.TupsK.nil)))))))))))))))))))))))))))
    (case xSa1 => k_is); (case xSb1 => repeat (first | exact XB.AreS.nil | refine XB.AreS.cons ?_))
    (case xSa2 => k_is); (case xSb2 => repeat (first | exact XB.AreS.nil | refine XB.AreS.cons ?_))
    (case xSa3 => k_is); (case xSb3 => repeat (first | exact XB.AreS.nil | refine XB.AreS.cons ?_))
    (case xSa4 => k_is); (case xSb4 => repeat (first | exact XB.AreS.nil | refine XB.AreS.cons ?_))
    (case xSa5 => k_is); (case xSb5 => repeat (first | exact XB.AreS.nil | refine XB.AreS.cons ?_))
    (case xSa6 => k_is); (case xSb6 => repeat (first | exact XB.AreS.nil | refine XB.AreS.cons ?_))
    (case xSa7 => k_is); (case xSb7 => repeat (first | exact XB.AreS.nil | refine XB.AreS.cons ?_))
    (case xSa8 => k_is); (case xSb8 => repeat (first | exact XB.AreS.nil | refine XB.AreS.cons ?_))
    (case xSa9 => k_is); (case xSb9 => repeat (first | exact XB.AreS.nil | refine XB.AreS.cons ?_))
    (case xSa10 => k_is); (case xSb10 => repeat (first | exact XB.AreS.nil | refine XB.AreS.cons ?_))
    (case xSa11 => k_is); (case xSb11 => repeat (first | exact XB.AreS.nil | refine XB.AreS.cons ?_))
    (case xSa12 => k_is); (case xSb12 => repeat (first | exact XB.AreS.nil | refine XB.AreS.cons ?_))
    (case xSa13 => k_is); (case xSb13 => repeat (first | exact XB.AreS.nil | refine XB.AreS.cons ?_))
    (case xSa14 => k_is); (case xSb14 => repeat (first | exact XB.AreS.nil | refine XB.AreS.cons ?_))
    (case xSa15 => k_is); (case xSb15 => repeat (first | exact XB.AreS.nil | refine XB.AreS.cons ?_))
    (case xSa16 => k_is); (case xSb16 => repeat (first | exact XB.AreS.nil | refine XB.AreS.cons ?_))
    (case xSa17 => k_is); (case xSb17 => repeat (first | exact XB.AreS.nil | refine XB.AreS.cons ?_))
    (case xSa18 => k_is); (case xSb18 => repeat (first | exact XB.AreS.nil | refine XB.AreS.cons ?_))
    (case xSa19 => k_is); (case xSb19 => repeat (first | exact XB.AreS.nil | refine XB.AreS.cons ?_))
    (case xSa20 => k_is); (case xSb20 => repeat (first | exact XB.AreS.nil | refine XB.AreS.cons ?_))
    (case xSa21 => k_is); (case xSb21 => repeat (first | exact XB.AreS.nil | refine XB.AreS.cons ?_))
    (case xSa22 => k_is); (case xSb22 => repeat (first | exact XB.AreS.nil | refine XB.AreS.cons ?_))
    (case xSa23 => k_is); (case xSb23 => repeat (first | exact XB.AreS.nil | refine XB.AreS.cons ?_))
    (case xSa24 => k_is); (case xSb24 => repeat (first | exact XB.AreS.nil | refine XB.AreS.cons ?_))
    (case xSa25 => k_is); (case xSb25 => repeat (first | exact XB.AreS.nil | refine XB.AreS.cons ?_))
    (case xSa26 => k_is); (case xSb26 => repeat (first | exact XB.AreS.nil | refine XB.AreS.cons ?_))
    (case xSa27 => k_is); (case xSb27 => repeat (first | exact XB.AreS.nil | refine XB.AreS.cons ?_))
