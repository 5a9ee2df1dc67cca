import PyProof.Rows.All
import Wide.All
import OpenK.AllK
import Wide.FinOn
import Lean
import PyProof.EqAt
import PyProof.EqKinds
import PyProof.TupleCall
import PySem.Challenge.RW_indexwise_k31_what_calls_bind
set_option Elab.async false
set_option linter.all false
set_option maxRecDepth 100000
set_option maxHeartbeats 3200000
local macro_rules | `(tactic| trivial) => `(tactic| first | exact .inl rfl | exact .inr (.inl rfl) | exact .inr (.inr rfl) | exact .inr rfl | assumption)
namespace L2
open PySem PySem.Spec PyProof.Rows
abbrev Key := Sum Int Str
def jN : Key -> Value -> Bool
 | .inl k, v => Value.isInt k v
 | .inr x, v => Value.isStrOf x v
def xl (w : World) : Key -> Int
 | .inl k => hashInt k
 | .inr x => hashStr w x
theorem bu : ∀ {k : Key} {v : Value}, jN k v = true -> (∃ i t, k = Sum.inl i /\ v = Value.int i t) \/ (∃ x t, k = Sum.inr x /\ v = Value.str x t)
 | .inl i, v, h => by
  obtain ⟨t, e⟩ := Value.isInt_shape (k := i) (v := v) h
  exact .inl ⟨i, t, rfl, e⟩
 | .inr x, v, h => by
  obtain ⟨t, e⟩ := Value.isStrOf_shape (x := x) (v := v) h
  exact .inr ⟨x, t, rfl, e⟩
theorem qd (i : Int) (t : Tok) : jN (.inl i) (.int i t) = true := by simp [jN, Value.isInt]
theorem qm (x : Str) (t : Tok) : jN (.inr x) (.str x t) = true := by simp [jN, Value.isStrOf]
theorem wc (a b : Int) : decide ((Sum.inl a : Key) = Sum.inl b) = (a == b) := by
 by_cases e : a = b
 ·subst e; simp
 ·have h : ¬ (Sum.inl a : Key) = Sum.inl b := fun q => e (Sum.inl.inj q)
  rw [decide_eq_false h]
  exact (beq_eq_false_iff_ne.mpr e).symm
theorem vU (a b : Str) : decide ((Sum.inr a : Key) = Sum.inr b) = decide (a = b) := by
 by_cases e : a = b
 ·subst e; simp
 ·have h : ¬ (Sum.inr a : Key) = Sum.inr b := fun q => e (Sum.inr.inj q)
  rw [decide_eq_false h, decide_eq_false e]
theorem vG (a : Int) (b : Str) : decide ((Sum.inl a : Key) = Sum.inr b) = false := decide_eq_false (fun q => nomatch q)
theorem wg (a : Str) (b : Int) : decide ((Sum.inr a : Key) = Sum.inl b) = false := decide_eq_false (fun q => nomatch q)
def be (prog : Program) (w : World) : PySem.KeyKind prog w Key where
 is := jN
 hash := xl w
 inj := fun v a b ha hb => by
  rcases bu ha with ⟨i, t, rfl, rfl⟩ | ⟨x, t, rfl, rfl⟩
  ·rcases bu hb with ⟨j, u, rfl, e⟩ | ⟨y, u, rfl, e⟩
   ·injection e with e1 _; rw [e1]
   ·exact nomatch e
  ·rcases bu hb with ⟨j, u, rfl, e⟩ | ⟨y, u, rfl, e⟩
   ·exact nomatch e
   ·injection e with e1 _; rw [e1]
 byValue := fun k v h => by
   rcases bu h with ⟨i, t, rfl, rfl⟩ | ⟨x, t, rfl, rfl⟩ <;> rfl
 pyHash := fun hv h => by
  rcases bu hv with ⟨i, t, rfl, rfl⟩ | ⟨x, t, rfl, rfl⟩
  ·exact wpAny_pyHash_int h
  ·exact wpAny_pyHash_str h
 eqBool := fun hu hv h => by
  rcases bu hu with ⟨i, t, rfl, rfl⟩ | ⟨x, t, rfl, rfl⟩
  ·rcases bu hv with ⟨j, u, rfl, rfl⟩ | ⟨y, u, rfl, rfl⟩
   ·rw [wc] at h; exact wpAny_eqBool_int h
   ·rw [vG] at h; exact SeqAt.EqAt.int_str i t y u _ _ _ _ h
  ·rcases bu hv with ⟨j, u, rfl, rfl⟩ | ⟨y, u, rfl, rfl⟩
   ·rw [wg] at h; exact SeqAt.EqAt.str_int x t j u _ _ _ _ h
   ·rw [vU] at h; exact wpAny_eqBool_str h
 «strs» := fun k x t v h => by
  rcases bu h with ⟨i, u, rfl, e⟩ | ⟨y, u, rfl, e⟩
  ·exact nomatch e
  ·injection e with e1 _
   subst e1
   cases v <;> rfl
theorem nv (prog : Program) (w : World) (i : Int) (t : Tok) : (be prog w).is (.inl i) (.int i t) = true := qd i t
theorem mi (prog : Program) (w : World) (x : Str) (t : Tok) : (be prog w).is (.inr x) (.str x t) = true := qm x t
inductive V where
 | non | bl (b : Bool) | int (i : Int) | str (x : Str) | byt (b : Array UInt8) | flt (b : UInt64) | ref (a : Addr) | ty (n : String)
 deriving DecidableEq
def aX : V -> Value -> Prop
 | .non, u => u = Value.none
 | .bl b, u => u = Value.bool b
 | .int i, u => ∃ t, u = Value.int i t
 | .str x, u => ∃ t, u = Value.str x t
 | .byt b, u => ∃ t, u = Value.bytes b t
 | .flt b, u => ∃ t, u = Value.float b t
 | .ref a, u => u = Value.ref a
 | .ty n, u => u = Value.type n
abbrev aU : List V -> List Value -> Prop := Paired aX
theorem aU.length {xs : List V} {us : List Value} (r : aU xs us) : xs.length = us.length := Paired.length r
theorem aU.get : ∀ {xs : List V} {us : List Value} {i : Nat} {x : V}, aU xs us -> xs[i]? = some x -> ∃ u, us[i]? = some u /\ aX x u
 | _, _, _, _, .nil, e => by simp at e
 | _, _, 0, _, .cons r _, e => by simp at e; subst e; exact ⟨_, rfl, r⟩
 | _, _, i + 1, x, .cons _ t, e => by
  obtain ⟨u, h1, h2⟩ := aU.get (i := i) (x := x) t (by simpa using e)
  exact ⟨u, by simpa using h1, h2⟩
theorem aU.set {x : V} {u : Value} (r : aX x u) : ∀ {xs : List V} {us : List Value} (i : Nat), aU xs us -> aU (xs.set i x) (us.set i u)
 | _, _, _, .nil => .nil
 | _, _, 0, .cons _ t => .cons r t
 | _, _, i + 1, .cons q t => .cons q (aU.set r i t)
theorem aU.append : ∀ {xs ys : List V} {us ws : List Value}, aU xs us -> aU ys ws -> aU (xs ++ ys) (us ++ ws)
 | _, _, _, _, .nil, s => s
 | _, _, _, _, .cons r t, s => .cons r (aU.append t s)
theorem aU.take : ∀ {xs : List V} {us : List Value} (n : Nat), aU xs us -> aU (xs.take n) (us.take n)
 | _, _, 0, _ => .nil
 | _, _, _ + 1, .nil => .nil
 | _, _, n + 1, .cons r t => .cons r (aU.take n t)
theorem aU.drop : ∀ {xs : List V} {us : List Value} (n : Nat), aU xs us -> aU (xs.drop n) (us.drop n)
 | _, _, 0, r => r
 | _, _, _ + 1, .nil => .nil
 | _, _, n + 1, .cons _ t => aU.drop n t
def gp : Option V -> Option Value -> Prop
 | some v, some u => aX v u
 | none, none => True
 | _, _ => False
def KV {κ : Type} : List (κ × V) -> List (κ × Value) -> Prop := Paired fun (p : κ × V) (q : κ × Value) => p.1 = q.1 /\ aX p.2 q.2
def kV : Key -> V
 | .inl i => .int i
 | .inr x => .str x
inductive HO where
 /-- a list -/
 | lst (xs : List V)
 /-- a tuple (never changes) -/
 | tup (xs : List V)
 /-- a dict whose keys are ints and texts; one whose keys are tuples of ints and texts (the empty one is both) -/
 | dK (kvs : List (Key × V)) | dT (kvs : List (List Key × V))
 /-- a set of ints: its members, its size -/
 | set (S : Int -> Bool) (n : Nat)
 /-- an instance of the class at C, its dict at dx, its attributes -/
 | ins (C dx : Addr) (fs : List (Str × V))
 /-- the dict of the instance at x -/
 | own (x : Addr)
 /-- the dict of an exception -/
 | xd (fs : List (Str × V))
 /-- a bound method, f of x -/
 | met (f x : Addr)
 /-- a range object lo, lo + 1, .. below hi -/
 | rng (lo hi : Int)
 /-- a thing that is known to the object (the script; a dict while a loop walks it): read, never written while it is so -/
 | frz (o : Obj) (u : HO)
 /-- a code object's table -/
 | tbl (ps : Array Value)
 /-- any other thing, by what is true of its one object (a def of one's own: SetO a S n := HO.ext fun h => ..) -/
 | ext (φ : Heap -> Prop)
abbrev Hp := Addr -> Option HO
def upd (H : Hp) (a : Addr) (o : HO) : Hp := fun b => if b = a then some o else H b
theorem ab {H : Hp} {a : Addr} {o : HO} : upd H a o a = some o := by unfold upd; rw [if_pos rfl]
theorem aq {H : Hp} {a b : Addr} {o : HO} (h : b ≠ a) : upd H a o b = H b := by unfold upd; rw [if_neg h]
theorem ug {H : Hp} {a : Addr} {o u : HO} : upd (upd H a o) a u = upd H a u := by
 funext b; unfold upd; split <;> rfl
theorem wL {H : Hp} {a b : Addr} {o u : HO} (h : H a = some o) (h' : H b = some u) (d : o ≠ u) : a ≠ b := by
 intro e; subst e; rw [h] at h'; exact d (Option.some.inj h')
theorem ai {H : Hp} {a b : Addr} {o : HO} (h : H a = some o) (h' : H b = none) : a ≠ b := by
 intro e; subst e; rw [h] at h'; cases h'
def NoD (h : Heap) (a : Addr) : Prop := ∃ o, h.get? a = some o /\ o.dict = none
theorem NoD.new (h : Heap) {o : Obj} (e : o.dict = none) (f : o.isFreed = false := by rfl) : NoD (h.push o) h.objs.size := ⟨_, Heap.get?_push_size _ f, e⟩
section
variable (P : Program) (w : World)
def bg (H : Hp) (h : Heap) (a : Addr) : HO -> Prop
 | .lst xs => xs.length <= sizeLine /\ ∃ (its : List Value) (n : Nat), aU xs its /\ h.get? a = some { cls := .type "list", data := .seq its.toArray n }
 | .tup xs => xs.length <= sizeLine /\ ∃ its : List Value, aU xs its /\ IsTup h a its.toArray /\ NoD h a
 | .dK kvs => kvs.length <= sizeLine /\ (a == sysModules) = false /\ ∃ vs, KV kvs vs /\ h.DictOf (be P w) a vs
 | .dT kvs => kvs.length <= sizeLine /\ (a == sysModules) = false /\ ∃ xs : List (List Key × Addr × Value),
   Paired (fun (p : List Key × V) (q : List Key × Addr × Value) => p.1 = q.1 /\ H q.2.1 = some (.tup (p.1.map kV)) /\ aX p.2 q.2.2) kvs xs /\
   ∃ o es ep, h.get? a = some o /\ o.ExactDict /\ o.data = .dict es ep /\ es.toList = xs.map (entryOfKey (tupleKind (be P w))) /\ (xs.map (·.1)).Nodup
 | .set S n => h.SetOf (intKind P w) a S n
 | .ins C dx fs => H dx = some (.own a) /\ fs.length <= 1000 /\ dx ≠ a /\ h.get? a = some (PySem.W.instObj C dx) /\
   ∃ mA, h.Ns1 dx mA /\ (∀ f, gp (fs.lookup f) (mA f)) /\ PySem.Within mA (fs.map (·.1))
 | .own _ => ∃ o, h.get? a = some o
 | .xd fs => ∃ mA, h.Ns1 a mA /\ ∀ f, gp (fs.lookup f) (mA f)
 | .rng lo hi => ∃ t u v, h.get? a = some { cls := .type "range", data := .fields #[.int lo t, .int hi u, .int 1 v] }
 | .frz o u => h.get? a = some o /\ bg H h a u
 | .tbl ps => h.get? a = some { cls := .none, data := .fields ps }
 | .met f x => h.get? a = some (PySem.W.methodObj (.ref f) (.ref x))
 | .ext φ => φ h /\ (∃ o, h.get? a = some o) /\ ∀ h1 h2 : Heap, φ h1 -> (∀ o, h1.get? a = some o -> h2.get? a = some o) -> φ h2
def HOk (H : Hp) (h : Heap) : Prop := ∀ a o, H a = some o -> bg P w H h a o
end
section
variable {P : Program} {w : World} {H H' : Hp} {h h' : Heap} {a : Addr} {o : HO}
theorem bg.lt (x : bg P w H h a o) : a < h.objs.size := by
 cases o with
 | lst xs => obtain ⟨_, _, _, _, e⟩ := x; exact Heap.lt_size e
 | tup xs => obtain ⟨_, _, _, p⟩ := x; exact p.1.lt
 | dK kvs => obtain ⟨_, _, _, _, o, _, _, e, _⟩ := x; exact Heap.lt_size e
 | dT kvs => obtain ⟨_, _, _, _, o, _, _, e, _⟩ := x; exact Heap.lt_size e
 | set S n => obtain ⟨o, _, _, _, e, _⟩ := x; exact Heap.lt_size e
 | ins C dx fs => obtain ⟨_, _, _, e, _⟩ := x; exact Heap.lt_size e
 | own y => obtain ⟨_, e⟩ := x; exact Heap.lt_size e
 | xd fs => obtain ⟨_, ⟨_, _, _, e, _⟩, _⟩ := x; exact Heap.lt_size e
 | rng lo hi => obtain ⟨_, _, _, e⟩ := x; exact Heap.lt_size e
 | frz ob u => obtain ⟨e, _⟩ := x; exact Heap.lt_size e
 | tbl ps => exact Heap.lt_size (show h.get? a = some _ from x)
 | met f y => exact Heap.lt_size (show h.get? a = some _ from x)
 | ext φ => obtain ⟨_, ⟨_, e⟩, _⟩ := x; exact Heap.lt_size e
theorem Paired.mapP {α β : Type} {F G : α -> β -> Prop} : ∀ {l₁ : List α} {l₂ : List β}, Paired F l₁ l₂ -> (∀ a b, F a b -> G a b) -> Paired G l₁ l₂
 | _, _, .nil, _ => .nil
 | _, _, .cons r t, f => .cons (f _ _ r) (Paired.mapP t f)
theorem bg.stay (x : bg P w H h a o) (k : ∀ b u, (b = a \/ H b = some (.own a)) -> h.get? b = some u -> h'.get? b = some u)
  (ho : ∀ b, H b = some (.own a) -> H' b = some (.own a)) (ht : ∀ b xs, H b = some (.tup xs) -> H' b = some (.tup xs)) : bg P w H' h' a o := by
 induction o with
 | lst xs => obtain ⟨z, its, n, r, e⟩ := x; exact ⟨z, its, n, r, k _ _ (.inl rfl) e⟩
 | tup xs => obtain ⟨z, its, r, ⟨ob, e, c⟩, od, e2, c2⟩ := x; exact ⟨z, its, r, ⟨ob, k _ _ (.inl rfl) e, c⟩, od, k _ _ (.inl rfl) e2, c2⟩
 | dK kvs => obtain ⟨z, y, vs, r, ob, es, ep, e, c⟩ := x; exact ⟨z, y, vs, r, ob, es, ep, k _ _ (.inl rfl) e, c⟩
 | dT kvs =>
  obtain ⟨z, y, xs, r, ob, es, ep, e, c⟩ := x
  exact ⟨z, y, xs, Paired.mapP r fun p q z => ⟨z.1, ht _ _ z.2.1, z.2.2⟩, ob, es, ep, k _ _ (.inl rfl) e, c⟩
 | set S n => obtain ⟨ob, es, ep, t, e, c⟩ := x; exact ⟨ob, es, ep, t, k _ _ (.inl rfl) e, c⟩
 | ins C dx fs =>
  obtain ⟨d, z, ne, e, mA, ⟨od, es, ep, e2, c⟩, r⟩ := x
  exact ⟨ho _ d, z, ne, k _ _ (.inl rfl) e, mA, ⟨od, es, ep, k _ _ (.inr d) e2, c⟩, r⟩
 | own y => obtain ⟨ob, e⟩ := x; exact ⟨ob, k _ _ (.inl rfl) e⟩
 | xd fs => obtain ⟨mA, ⟨od, es, ep, e, c⟩, r⟩ := x; exact ⟨mA, ⟨od, es, ep, k _ _ (.inl rfl) e, c⟩, r⟩
 | rng lo hi => obtain ⟨t, u, v, e⟩ := x; exact ⟨t, u, v, k _ _ (.inl rfl) e⟩
 | frz ob u ih => obtain ⟨e, q⟩ := x; exact ⟨k _ _ (.inl rfl) e, ih q⟩
 | tbl ps =>
  have e : h.get? a = some { cls := .none, data := .fields ps } := x
  show h'.get? a = some { cls := .none, data := .fields ps }
  exact k a _ (.inl rfl) e
 | met f y =>
  have e : h.get? a = some (PySem.W.methodObj (.ref f) (.ref y)) := x
  show h'.get? a = some (PySem.W.methodObj (.ref f) (.ref y))
  exact k a _ (.inl rfl) e
 | ext φ => obtain ⟨p, ⟨o, e⟩, st⟩ := x; exact ⟨st _ _ p fun o q => k _ _ (.inl rfl) q, ⟨o, k _ _ (.inl rfl) e⟩, st⟩
theorem HOk.lt (x : HOk P w H h) (e : H a = some o) : a < h.objs.size := (x a o e).lt
theorem HOk.fresh (x : HOk P w H h) (e : h.objs.size <= a) : H a = none := by
 cases q : H a with
 | none => rfl
 | some u => exact absurd (Nat.lt_of_lt_of_le (x.lt q) e) (Nat.lt_irrefl _)
theorem HOk.kept (x : HOk P w H h) (k : ∀ b u, h.get? b = some u -> h'.get? b = some u) : HOk P w H h' := fun a o e =>
 (x a o e).stay (fun b u _ q => k b u q) (fun _ q => q) fun _ _ q => q
theorem HOk.laid (x : HOk P w H h) (k : ∀ b u, h.get? b = some u -> h'.get? b = some u) (hp : h.objs.size <= a) (new : bg P w (upd H a o) h' a o) : HOk P w (upd H a o) h' := fun b u e => by
 have hn := x.fresh hp
 by_cases hb : b = a
 ·subst hb; rw [ab] at e; cases e; exact new
 ·rw [aq hb] at e
  exact (x b u e).stay (fun c v _ q => k c v q) (fun c q => by rw [aq (ai q hn)]; exact q) fun c xs q => by rw [aq (ai q hn)]; exact q
end
def Rd (H : Hp) (a : Addr) (u : HO) : Prop := H a = some u \/ ∃ o, H a = some (.frz o u)
theorem Rd.ok {P : Program} {w : World} {H : Hp} {h : Heap} {a : Addr} {u : HO} (r : Rd H a u) (x : HOk P w H h) : bg P w H h a u := by
 rcases r with r | ⟨o, r⟩
 ·exact x a u r
 ·obtain ⟨_, q⟩ := x a _ r
  exact q
def Mut : Option HO -> Prop
 | some (.lst _) => True
 | some (.dK _) => True
 | some (.dT _) => True
 | some (.set _ _) => True
 | some (.ins _ _ _) => True
 | some (.ext _) => True
 | _ => False
section
variable {P : Program} {w : World} {H : Hp} {h h' : Heap} {x e : Addr} {o' : HO}
theorem HOk.write (ok : HOk P w H h) (mu : Mut (H x)) (he : e = x \/ H e = some (.own x)) (k : ∀ b u, b ≠ e -> h.get? b = some u -> h'.get? b = some u) (heo : ∃ u, h'.get? e = some u)
  (new : bg P w (upd H x o') h' x o') : HOk P w (upd H x o') h' := fun b u q => by
 have nown : ∀ c y, H c = some (.own y) -> c ≠ x := fun c y r z => by subst z; rw [r] at mu; exact mu
 have ntup : ∀ c xs, H c = some (.tup xs) -> c ≠ x := fun c xs r z => by subst z; rw [r] at mu; exact mu
 by_cases hb : b = x
 ·subst hb; rw [ab] at q; cases q; exact new
 ·rw [aq hb] at q
  by_cases hbe : b = e
  ·have q' : H b = some (.own x) := by
    rcases he with z | z
    ·exact absurd (hbe.trans z) hb
    ·rw [hbe]; exact z
   rw [q] at q'; cases q'
   obtain ⟨v, hv⟩ := heo
   exact ⟨v, by rw [hbe]; exact hv⟩
  ·refine (ok b u q).stay (fun c v hc r => k c v ?_ r) (fun c r => by rw [aq (nown c b r)]; exact r) fun c xs r => by rw [aq (ntup c xs r)]; exact r
   rcases hc with rfl | hc
   ·exact hbe
   ·rintro rfl
    rcases he with z | z
    ·exact nown c b hc z
    ·rw [hc] at z; cases z; exact hb rfl
end
structure Un (fs ex : List Addr) (H H' : Hp) (h h' : Heap) : Prop where
 keep : ∀ b o, h.get? b = some o -> H b = none -> b ∉ fs -> b ∉ ex -> h'.get? b = some o
 slot : ∀ b o, h.get? b = some o -> H b = none -> b ∈ fs -> b ∉ ex -> ∃ sl, h'.get? b = some { o with slots := sl }
 free : ∀ b o, h.get? b = some o -> H b = none -> b ∉ ex -> H' b = none
 there : ∀ b o, h.get? b = some o -> b ∉ ex -> ∃ o', h'.get? b = some o'
 tups : ∀ b xs, H b = some (.tup xs) -> H' b = some (.tup xs)
 frzs : ∀ b o u, H b = some (.frz o u) -> H' b = some (.frz o u)
 tbls : ∀ b ps, H b = some (.tbl ps) -> ∃ more, H' b = some (.tbl (ps ++ more))
section
variable {fs fs' ex ex' : List Addr} {H H1 H2 : Hp} {h h1 h2 h' : Heap} {a x e : Addr} {o : HO}
theorem Un.any (u : Un fs ex H H1 h h1) {b : Addr} {ob : Obj} (q : h.get? b = some ob) (n : H b = none) (hx : b ∉ ex) : ∃ sl, h1.get? b = some { ob with slots := sl } := by
 by_cases hb : b ∈ fs
 ·exact u.slot b ob q n hb hx
 ·exact ⟨ob.slots, u.keep b ob q n hb hx⟩
theorem Un.kept (k : ∀ b u, h.get? b = some u -> h'.get? b = some u) : Un fs ex H H h h' :=
 ⟨fun b ob q _ _ _ => k b ob q, fun b ob q _ _ _ => ⟨ob.slots, k b ob q⟩, fun _ _ _ n _ => n, fun b ob q _ => ⟨ob, k b ob q⟩, fun _ _ q => q, fun _ _ _ q => q, fun _ ps q => ⟨#[], by rw [q]; simp⟩⟩
theorem Un.refl : Un fs ex H H h h := Un.kept fun _ _ q => q
theorem Un.laid (k : ∀ b u, h.get? b = some u -> h'.get? b = some u) (hp : h.objs.size <= a) (hn : H a = none) : Un fs ex H (upd H a o) h h' where
 keep := fun b u q _ _ _ => k b u q
 slot := fun b u q _ _ _ => ⟨u.slots, k b u q⟩
 free := fun b u q n _ => by rw [aq (Nat.ne_of_lt (Nat.lt_of_lt_of_le (Heap.lt_size q) hp))]; exact n
 there := fun b u q _ => ⟨u, k b u q⟩
 tups := fun b xs q => by rw [aq (ai q hn)]; exact q
 frzs := fun b u xs q => by rw [aq (ai q hn)]; exact q
 tbls := fun b ps q => ⟨#[], by rw [aq (ai q hn), q]; simp⟩
theorem Un.write (mu : Mut (H x)) (he : e = x \/ H e = some (.own x)) (k : ∀ b u, b ≠ e -> h.get? b = some u -> h'.get? b = some u) (heo : ∃ u, h'.get? e = some u) : Un fs ex H (upd H x o) h h' := by
 have hx : ∀ b, H b = none -> b ≠ x := fun b n z => by subst z; rw [n] at mu; exact mu
 have hb : ∀ b, H b = none -> b ≠ e := fun b n z => by
  subst z
  rcases he with r | r
  ·exact hx b n r
  ·rw [n] at r; cases r
 have hm : ∀ b u, H b = some u -> ¬ Mut (some u) -> b ≠ x := fun b u q nm z => by subst z; rw [q] at mu; exact nm mu
 refine ⟨fun b u q n _ _ => k b u (hb b n) q, fun b u q n _ _ => ⟨u.slots, k b u (hb b n) q⟩, fun b u q n _ => by rw [aq (hx b n)]; exact n, fun b u q _ => ?_,
  fun b xs q => by rw [aq (hm b _ q fun z => z)]; exact q, fun b u xs q => by rw [aq (hm b _ q fun z => z)]; exact q, fun b ps q => ⟨#[], by rw [aq (hm b _ q fun z => z), q]; simp⟩⟩
 by_cases hbe : b = e
 ·subst hbe; exact heo
 ·exact ⟨u, k b u hbe q⟩
end
def trk (h : Heap) (H : Hp) : List Addr := (List.range h.objs.size).filter fun a => (H a).isSome
def lX (h : Heap) (H : Hp) : Heap := PySem.W.hideAll h (trk h H)
theorem qz (h : Heap) (H : Hp) : (lX h H).objs.size = h.objs.size := PySem.W.hideAll_size _ _
theorem rj {h : Heap} {H : Hp} {b : Addr} {o : Obj} (e : h.get? b = some o) (n : H b = none) : (lX h H).get? b = some o :=
 PySem.W.hideAll_get _ e fun hm => by
  have q : (H b).isSome = true := (List.mem_filter.mp hm).2
  rw [n] at q; simp at q
theorem tY {h : Heap} {H : Hp} {b : Addr} {o : Obj} (e : (lX h H).get? b = some o) : h.get? b = some o /\ H b = none := by
 have e' : h.get? b = some o := PySem.W.of_hideAll (trk h H) e
 refine ⟨e', ?_⟩
 cases q : H b with
 | none => rfl
 | some x =>
  have hm : b ∈ trk h H := List.mem_filter.mpr ⟨List.mem_range.mpr (Heap.lt_size e'), by simp [q]⟩
  have z : (lX h H).get? b = none := PySem.W.hideAll_none (trk h H) hm
  rw [z] at e; cases e
def cJ (g h : Heap) (L : Addr) : List (Addr × Obj) := (List.range h.objs.size).filterMap fun a => if a = L \/ (g.get? a).isSome = true then none else (h.get? a).map fun o => (a, o)
theorem dj {g h : Heap} {L a : Addr} {o : Obj} (h1 : a ≠ L) (h2 : g.get? a = none) (h3 : h.get? a = some o) : (a, o) ∈ cJ g h L :=
 List.mem_filterMap.mpr ⟨a, List.mem_range.mpr (Heap.lt_size h3), by simp [h1, h2, h3]⟩
theorem jh {g h : Heap} {L : Addr} {p : Addr × Obj} (hp : p ∈ cJ g h L) : p.1 ≠ L /\ g.get? p.1 = none /\ h.get? p.1 = some p.2 := by
 obtain ⟨b, _, e⟩ := List.mem_filterMap.mp hp
 split at e
 ·cases e
 ·rename_i hn
  cases q : h.get? b with
  | none => rw [q] at e; simp at e
  | some u =>
   rw [q] at e
   simp only [Option.map_some, Option.some.injEq] at e
   subst e
   refine ⟨fun z => hn (.inl z), ?_, q⟩
   show g.get? b = none
   cases r : g.get? b with
   | none => rfl
   | some v => exact (hn (.inr (by simp [r]))).elim
theorem iG {g h : Heap} {L : Addr} : News g L h (cJ g h L) := fun p hp => let ⟨a, b, c⟩ := jh hp; ⟨c, a, b⟩
structure Mod (K : PySem.W.Frag) (mg : Str -> Option Value) (base : Heap) : Prop where
 kin : K.In base
 glob : base.Ns mainGlobals mg
 blt : ∃ mb, base.Ns builtinsNs mb /\ ∀ x : Str, x ≠ "__name__" -> mb x = bootBuiltins x
 nolimit : base.NoLimit
structure Cx where
 prog : Program
 w : World
 K : PySem.W.Frag
 mg : Str -> Option Value
 base : Heap
 A : Around
 N : List Str
 s₀ : Shared
 H₀ : Hp
 env : Env
 outer : List Env
 stack : List Env
 ex : List Addr
 fn : Str -> Bool
 calm : Bool
 pn : List (Addr × Obj)
 xe : Value -> Shared -> Prop
def frs (l : List Env) : List Addr := l.filterMap (·.frame)
abbrev Cx.fs (X : Cx) : List Addr := frs X.outer
def Vis (sc : Scope) (x : Str) : Prop := sc.names.lookup x = some .local \/ sc.names.lookup x = some .cell \/ sc.names.lookup x = some .free
def Loc (sc : Scope) (x : Str) : Prop := sc.names.lookup x = some .local \/ sc.names.lookup x = some .cell
def xk (env : Env) (h : Heap) (m : Str -> Option Value) (x : Str) (u : Value) : Prop :=
 (env.kindOf x = some .local /\ m x = some u) \/ ((env.kindOf x = some .cell \/ env.kindOf x = some .free) /\ ∃ c, env.cells.lookup x = some c /\ h.IsCell c (some u))
structure Cx.Ok (X : Cx) : Prop where
 mod : Mod X.K X.mg X.base
 kind : X.env.scope.kind = .function
 glob : X.env.globals = mainGlobals
 blt : X.env.builtins = builtinsNs
 above : X.s₀.heap.objs.size <= X.env.locals
 inj : ∀ x y c, X.env.cells.lookup x = some c -> X.env.cells.lookup y = some c -> x = y
 has : ∀ x, (X.env.kindOf x = some .cell \/ X.env.kindOf x = some .free) -> ∃ c, X.env.cells.lookup x = some c
 cab : ∀ x c, X.fn x = true -> X.env.cells.lookup x = some c -> X.s₀.heap.objs.size <= c
 hd : X.calm = true -> X.A.handled = none
 frames : X.A.frames = some X.stack
 stk : X.stack = X.outer \/ (X.stack = X.env :: X.outer /\ X.env.frame = some X.env.locals)
 exf : ∀ b ∈ X.ex, b ≠ X.env.locals /\ ∀ x c, X.env.cells.lookup x = some c -> c ≠ b
 bs : ∀ b o, X.base.get? b = some o -> X.s₀.heap.get? b = some o /\ X.H₀ b = none
 bsz : X.base.objs.size <= X.s₀.heap.objs.size
 noex : ∀ b o, X.base.get? b = some o -> b ∉ X.ex
 exfs : ∀ b ∈ X.ex, b ∉ X.fs
 funs : X.s₀.heap.FunFrames X.base X.outer
 frf : ∀ b ∈ X.fs, X.H₀ b = none
structure Inv (X : Cx) (pins : List (Addr × Obj)) (σ : List (Option V)) (H : Hp) (s : Shared) : Prop where
 ok : X.Ok
 os : s.os = X.s₀.os
 bare : AllBare s.gens
 base : Un X.fs X.ex X.H₀ H X.s₀.heap s.heap
 loc : ∃ m, s.heap.Ns X.env.locals m /\ ∀ (i : Nat) (x : Str) (v : V), X.N[i]? = some x -> σ[i]? = some (some v) -> Vis X.env.scope x -> ∃ u, aX v u /\ xk X.env s.heap m x u
 cell : ∀ x c, X.env.cells.lookup x = some c -> ∃ v, s.heap.IsCell c v
 free : H X.env.locals = none
 freeC : ∀ x c, X.env.cells.lookup x = some c -> H c = none
 pin : ∀ p ∈ X.pn ++ pins, s.heap.get? p.1 = some p.2 /\ H p.1 = none /\ p.1 ≠ X.env.locals /\ p.1 ∉ X.fs /\ ∀ v, p.2.data ≠ .cell v
 hok : HOk X.prog X.w H s.heap
 len : σ.length = X.N.length
section
variable {X : Cx} {pins : List (Addr × Obj)} {σ : List (Option V)} {H H' : Hp} {s : Shared} {h' : Heap}
theorem Cx.Ok.nofr (ok : X.Ok) {b : Addr} {o : Obj} (e : X.base.get? b = some o) : b ∉ X.fs := fun hb => by
 have := (ok.funs.mem hb).1
 rw [e] at this; cases this
theorem Inv.bs (I : Inv X pins σ H s) : ∀ b o, X.base.get? b = some o -> s.heap.get? b = some o /\ H b = none := fun b o e =>
 ⟨I.base.keep b o (I.ok.bs b o e).1 (I.ok.bs b o e).2 (I.ok.nofr e) (I.ok.noex b o e), I.base.free b o (I.ok.bs b o e).1 (I.ok.bs b o e).2 (I.ok.noex b o e)⟩
theorem Inv.bk (I : Inv X pins σ H s) : ∀ b o, X.base.get? b = some o -> s.heap.get? b = some o := fun b o e => (I.bs b o e).1
theorem Inv.mod (I : Inv X pins σ H s) : Mod X.K X.mg X.base := I.ok.mod
theorem Inv.kIn (I : Inv X pins σ H s) : X.K.In s.heap := I.ok.mod.kin.keeps I.bk
theorem Inv.lt (I : Inv X pins σ H s) : X.env.locals < s.heap.objs.size := let ⟨_, hn, _⟩ := I.loc; hn.lt
theorem Inv.sz (I : Inv X pins σ H s) : X.s₀.heap.objs.size <= s.heap.objs.size := Nat.le_trans I.ok.above (Nat.le_of_lt I.lt)
theorem Inv.nofs (I : Inv X pins σ H s) {a : Addr} (h : s.heap.objs.size <= a) : a ∉ X.fs := fun hb => by
 obtain ⟨_, o, ho, _⟩ := I.ok.funs.mem hb
 exact absurd (Nat.lt_of_lt_of_le (Heap.lt_size ho) (Nat.le_trans I.sz h)) (Nat.lt_irrefl _)
theorem Inv.cne (I : Inv X pins σ H s) : ∀ x c, X.env.cells.lookup x = some c -> c ≠ X.env.locals := fun x c e z => by
 obtain ⟨v, o, ho, hd⟩ := I.cell x c e
 obtain ⟨m, ⟨o', es, ep, ho', hd', _⟩, _⟩ := I.loc
 rw [z, ho'] at ho; cases ho; rw [hd'] at hd; cases hd
theorem Inv.funs (I : Inv X pins σ H s) : s.heap.FunFrames X.base X.outer := by
 have all : ∀ (l : List Env), (∀ b ∈ frs l, b ∈ X.fs) -> X.s₀.heap.FunFrames X.base l -> s.heap.FunFrames X.base l := by
  intro l
  induction l with
  | nil => intro _ _; trivial
  | cons env r ih =>
   intro hs hl
   obtain ⟨hk, ⟨L, o, hf, hn, ho, hd⟩, hr⟩ := hl
   have hL : L ∈ X.fs := hs L (by unfold frs; rw [List.filterMap_cons, hf]; exact List.mem_cons_self)
   obtain ⟨sl, e⟩ := I.base.slot L o ho (I.ok.frf L hL) hL fun z => I.ok.exfs L z hL
   exact ⟨hk, ⟨L, _, hf, hn, e, hd⟩, ih (fun b hb => hs b (by unfold frs; rw [List.filterMap_cons, hf]; exact List.mem_cons_of_mem _ hb)) hr⟩
 exact all X.outer (fun _ hb => hb) I.ok.funs
theorem Inv.stack (I : Inv X pins σ H s) : s.heap.FunFrames X.base X.stack := by
 rcases I.ok.stk with e | ⟨e, hf⟩
 ·rw [e]; exact I.funs
 ·rw [e]
  obtain ⟨m, hn, _⟩ := I.loc
  refine .cons (by rw [I.ok.kind]; decide) hf hn ?_ I.funs
  exact Heap.get?_none_of_le (Nat.le_trans I.ok.bsz I.ok.above)
theorem Inv.stkSub (I : Inv X pins σ H s) : ∀ b ∈ frs X.stack, b ∈ X.env.locals :: X.fs := fun b hb => by
 rcases I.ok.stk with e | ⟨e, hf⟩
 ·rw [e] at hb; exact List.mem_cons_of_mem _ hb
 ·rw [e] at hb
  unfold frs at hb
  rw [List.filterMap_cons, hf] at hb
  exact hb
theorem Inv.stkFree (I : Inv X pins σ H s) : ∀ b ∈ frs X.stack, H b = none := fun b hb => by
 rcases List.mem_cons.mp (I.stkSub b hb) with e | hb
 ·rw [e]; exact I.free
 ·obtain ⟨_, o, ho, _⟩ := I.ok.funs.mem hb
  exact I.base.free b o ho (I.ok.frf b hb) fun z => I.ok.exfs b z hb
theorem Inv.step {g' : Array GenState} {t' : Nat} {d' : Drawn} {ch : List Addr} (I : Inv X pins σ H s)
  (hch : ∀ b ∈ ch, (b ∈ X.ex \/ X.s₀.heap.objs.size <= b) /\ b ≠ X.env.locals /\ (∀ x c, X.env.cells.lookup x = some c -> c ≠ b) /\ ∀ p ∈ X.pn ++ pins, p.1 ≠ b)
  (keep : ∀ b o, b ≠ X.env.locals -> b ∉ X.fs -> b ∉ ch -> s.heap.get? b = some o -> H b = none -> h'.get? b = some o)
  (slot : ∀ b o, b ≠ X.env.locals -> b ∈ X.fs -> b ∉ ch -> s.heap.get? b = some o -> H b = none -> ∃ sl, h'.get? b = some { o with slots := sl }) (free : ∀ b o, b ∉ ch -> s.heap.get? b = some o -> H b = none -> H' b = none)
  (there : ∀ b o, b ∉ ch -> s.heap.get? b = some o -> ∃ o', h'.get? b = some o')
  (tups : ∀ b xs, H b = some (.tup xs) -> H' b = some (.tup xs)) (frzs : ∀ b o u, H b = some (.frz o u) -> H' b = some (.frz o u)) (tbls : ∀ b ps, H b = some (.tbl ps) -> ∃ more, H' b = some (.tbl (ps ++ more)))
  (ns : ∀ m, s.heap.Ns X.env.locals m -> h'.Ns X.env.locals m) (hok : HOk X.prog X.w H' h') (hg : AllBare g') :
  Inv X pins σ H' { s with heap := h', gens := g', drawn := d', toks := t' } := by
 have neL : ∀ b o, X.s₀.heap.get? b = some o -> b ≠ X.env.locals := fun b o e => Nat.ne_of_lt (Nat.lt_of_lt_of_le (Heap.lt_size e) I.ok.above)
 have neC : ∀ b o, X.s₀.heap.get? b = some o -> b ∉ X.ex -> b ∉ ch := fun b o e hx hb => by
  rcases (hch b hb).1 with z | z
  ·exact hx z
  ·exact absurd (Nat.lt_of_lt_of_le (Heap.lt_size e) z) (Nat.lt_irrefl _)
 have cellK : ∀ x c, X.env.cells.lookup x = some c -> ∀ v, s.heap.IsCell c v -> h'.IsCell c v := fun x c e v ⟨o, ho, hd⟩ => by
  have nch : c ∉ ch := fun z => (hch c z).2.2.1 x c e rfl
  by_cases hc : c ∈ X.fs
  ·obtain ⟨sl, q⟩ := slot c o (I.cne x c e) hc nch ho (I.freeC x c e)
   exact ⟨_, q, hd⟩
  ·exact ⟨o, keep c o (I.cne x c e) hc nch ho (I.freeC x c e), hd⟩
 refine ⟨I.ok, I.os, hg, ⟨fun b o e n hb hx => ?_, fun b o e n hb hx => ?_, fun b o e n hx => ?_, fun b o e hx => ?_, fun b xs e => tups b xs (I.base.tups b xs e), fun b o xs e => frzs b o xs (I.base.frzs b o xs e), fun b ps e => ?_⟩, ?_, fun x c e => ?_, ?_, fun x c e => ?_, fun p hp => ?_, hok, I.len⟩
 ·exact keep b o (neL b o e) hb (neC b o e hx) (I.base.keep b o e n hb hx) (I.base.free b o e n hx)
 ·obtain ⟨sl, e1⟩ := I.base.slot b o e n hb hx
  obtain ⟨sl', e2⟩ := slot b _ (neL b o e) hb (neC b o e hx) e1 (I.base.free b o e n hx)
  exact ⟨sl', e2⟩
 ·obtain ⟨o', e1⟩ := I.base.there b o e hx
  exact free b o' (neC b o e hx) e1 (I.base.free b o e n hx)
 ·obtain ⟨o', e1⟩ := I.base.there b o e hx
  exact there b o' (neC b o e hx) e1
 ·obtain ⟨m1, e1⟩ := I.base.tbls b ps e
  obtain ⟨m2, e2⟩ := tbls b _ e1
  exact ⟨m1 ++ m2, by rw [e2, Array.append_assoc]⟩
 ·obtain ⟨m, hn, hl⟩ := I.loc
  refine ⟨m, ns m hn, fun i x v e1 e2 e3 => ?_⟩
  obtain ⟨u, r, l⟩ := hl i x v e1 e2 e3
  refine ⟨u, r, ?_⟩
  rcases l with l | ⟨k, c, e, z⟩
  ·exact .inl l
  ·exact .inr ⟨k, c, e, cellK x c e _ z⟩
 ·obtain ⟨v, z⟩ := I.cell x c e
  exact ⟨v, cellK x c e v z⟩
 ·obtain ⟨m, ⟨o, _, _, ho, _⟩, _⟩ := I.loc
  exact free _ o (fun z => (hch _ z).2.1 rfl) ho I.free
 ·obtain ⟨v, o, ho, hd⟩ := I.cell x c e
  exact free c o (fun z => (hch c z).2.2.1 x c e rfl) ho (I.freeC x c e)
 ·obtain ⟨e, n, ne, nf, d⟩ := I.pin p hp
  have nch : p.1 ∉ ch := fun z => (hch p.1 z).2.2.2 p hp rfl
  exact ⟨keep p.1 p.2 ne nf nch e n, free p.1 p.2 nch e n, ne, nf, d⟩
theorem Inv.un {t' : Nat} (I : Inv X pins σ H s) (u : Un X.fs [] H H' s.heap h') (hok : HOk X.prog X.w H' h') : Inv X pins σ H' { s with heap := h', toks := t' } := by
 obtain ⟨m, ⟨o, es, ep, ho, r⟩, _⟩ := id I.loc
 obtain ⟨sl, hL⟩ := u.any ho I.free (by simp)
 exact I.step (g' := s.gens) (d' := s.drawn) (ch := []) (fun _ z => nomatch z) (fun b o _ hb _ e n => u.keep b o e n hb (by simp)) (fun b o _ hb _ e n => u.slot b o e n hb (by simp)) (fun b o _ e n => u.free b o e n (by simp)) (fun b o _ e => u.there b o e (by simp)) u.tups u.frzs u.tbls (fun m' hm => by
  obtain ⟨o', es', ep', ho', r'⟩ := hm
  rw [ho] at ho'; cases ho'
  exact ⟨_, es', ep', hL, r'⟩) hok I.bare
theorem Inv.call {g' : Array GenState} {t' : Nat} {d' : Drawn} {ch : List Addr} (I : Inv X pins σ H s) (u : Un (frs X.stack) ch H H' s.heap h') (hok : HOk X.prog X.w H' h') (hg : AllBare g')
  (hch : ∀ b ∈ ch, (b ∈ X.ex \/ X.s₀.heap.objs.size <= b) /\ b ≠ X.env.locals /\ (∀ x c, X.env.cells.lookup x = some c -> c ≠ b) /\ ∀ p ∈ X.pn ++ pins, p.1 ≠ b) :
  Inv X pins σ H' { s with heap := h', gens := g', drawn := d', toks := t' } := by
 obtain ⟨m, ⟨o, es, ep, ho, r⟩, _⟩ := id I.loc
 obtain ⟨sl, hL⟩ := u.any ho I.free fun z => (hch _ z).2.1 rfl
 exact I.step (ch := ch) hch (fun b o hL hb hc e n => u.keep b o e n (fun z => (List.mem_cons.mp (I.stkSub b z)).elim hL hb) hc) (fun b o _ _ hc e n => u.any e n hc) (fun b o hc e n => u.free b o e n hc) (fun b o hc e => u.there b o e hc) u.tups u.frzs u.tbls (fun m' hm => by
  obtain ⟨o', es', ep', ho', r'⟩ := hm
  rw [ho] at ho'; cases ho'
  exact ⟨_, es', ep', hL, r'⟩) hok hg
theorem Inv.turned {t' : Nat} {it : Addr} (I : Inv X pins σ H s) (k : ∀ b o, b ≠ it -> s.heap.get? b = some o -> h'.get? b = some o) (hn : H it = none) (hL : it ≠ X.env.locals)
  (h1 : it ∈ X.ex \/ X.s₀.heap.objs.size <= it) (h2 : ∀ x c, X.env.cells.lookup x = some c -> c ≠ it) (h3 : ∀ p ∈ X.pn ++ pins, p.1 ≠ it) : Inv X pins σ H { s with heap := h', toks := t' } := by
 have nit : ∀ b u, H b = some u -> b ≠ it := fun b u e z => by rw [z, hn] at e; cases e
 refine I.step (g' := s.gens) (d' := s.drawn) (ch := [it]) (fun b hb => ?_) (fun b o _ _ hc e _ => k b o (fun z => hc (by simp [z])) e) (fun b o _ _ hc e _ => ⟨o.slots, k b o (fun z => hc (by simp [z])) e⟩) (fun _ _ _ _ n => n)
  (fun b o hc e => ⟨o, k b o (fun z => hc (by simp [z])) e⟩) (fun _ _ e => e) (fun _ _ _ e => e) (fun b ps e => ⟨#[], by rw [e]; simp⟩) (fun m hm => ?_) (fun b u e => ?_) I.bare
 ·have e : b = it := by simpa using hb
  subst e
  exact ⟨h1, hL, h2, h3⟩
 ·obtain ⟨o, es, ep, ho, r⟩ := hm
  exact ⟨o, es, ep, k _ o (Ne.symm hL) ho, r⟩
 ·refine (I.hok b u e).stay (fun c v hc q => k c v ?_ q) (fun _ q => q) fun _ _ q => q
  rcases hc with z | z
  ·rw [z]; exact nit b u e
  ·exact nit c _ z
theorem Inv.tok (I : Inv X pins σ H s) (t : Nat) : Inv X pins σ H { s with toks := t } := I.un (h' := s.heap) (t' := t) Un.refl I.hok
theorem Inv.kept {t' : Nat} (I : Inv X pins σ H s) (k : ∀ b u, s.heap.get? b = some u -> h'.get? b = some u) : Inv X pins σ H { s with heap := h', toks := t' } := I.un (Un.kept k) (I.hok.kept k)
theorem Inv.laid {a : Addr} {o : HO} {t' : Nat} (I : Inv X pins σ H s) (k : ∀ b u, s.heap.get? b = some u -> h'.get? b = some u) (hp : s.heap.objs.size <= a) (new : bg X.prog X.w (upd H a o) h' a o) :
  Inv X pins σ (upd H a o) { s with heap := h', toks := t' } := I.un (Un.laid k hp (I.hok.fresh hp)) (I.hok.laid k hp new)
theorem Inv.write {x e : Addr} {o : HO} {t' : Nat} (I : Inv X pins σ H s) (mu : Mut (H x)) (he : e = x \/ H e = some (.own x)) (k : ∀ b u, b ≠ e -> s.heap.get? b = some u -> h'.get? b = some u) (heo : ∃ u, h'.get? e = some u)
  (new : bg X.prog X.w (upd H x o) h' x o) : Inv X pins σ (upd H x o) { s with heap := h', toks := t' } := I.un (Un.write mu he k heo) (I.hok.write mu he k heo new)
theorem Inv.weak {σ' : List (Option V)} (I : Inv X pins σ H s) (hl : σ'.length = σ.length) (w : ∀ (i : Nat) v, σ'[i]? = some (some v) -> σ[i]? = some (some v)) : Inv X pins σ' H s :=
 ⟨I.ok, I.os, I.bare, I.base, let ⟨m, hn, hl'⟩ := I.loc; ⟨m, hn, fun i x v e1 e2 e3 => hl' i x v e1 (w i v e2) e3⟩, I.cell, I.free, I.freeC, I.pin, I.hok, hl.trans I.len⟩
theorem Inv.pins_of {pins' : List (Addr × Obj)} (I : Inv X pins σ H s) (h : ∀ p ∈ pins', s.heap.get? p.1 = some p.2 /\ H p.1 = none /\ p.1 ≠ X.env.locals /\ p.1 ∉ X.fs /\ ∀ v, p.2.data ≠ .cell v) : Inv X pins' σ H s :=
 ⟨I.ok, I.os, I.bare, I.base, I.loc, I.cell, I.free, I.freeC, fun p hp => (List.mem_append.mp hp).elim (fun z => I.pin p (List.mem_append_left _ z)) (h p), I.hok, I.len⟩
theorem mf {N : List Str} (hN : N.Nodup) {i j : Nat} {x : Str} (a : N[i]? = some x) (b : N[j]? = some x) : i = j := by
 obtain ⟨h1, e1⟩ := List.getElem?_eq_some_iff.mp a
 obtain ⟨h2, e2⟩ := List.getElem?_eq_some_iff.mp b
 exact (List.getElem_inj hN).mp (e1.trans e2.symm)
theorem jJ {M : Model} {A : Around} {E : Value -> Shared -> Prop} {i : Nat} {x : Str} {v : V} {u : Value} {Q : Unit -> Shared -> Prop} (I : Inv X pins σ H s) (hN : X.N.Nodup) (hi : X.N[i]? = some x) (hx : Loc X.env.scope x) (r : aX v u)
  (h : ∀ s', Inv X pins (σ.set i (some v)) H s' -> (∃ a, Heap.SameBut a s.heap s'.heap /\ (a = X.env.locals \/ X.env.cells.lookup x = some a)) -> Q () s') (hf : X.fn x = true \/ X.env.scope.names.lookup x = some .local := by first | exact .inl rfl | exact .inr rfl | assumption) : wpAny M A (storeName X.env x u) Q E s := by
 obtain ⟨m, hn, hl⟩ := id I.loc
 have hcls : (X.env.scope.kind == .class || (X.env.scope.kind == .module && X.env.locals != X.env.globals)) = false := by rw [I.ok.kind]; rfl
 have hiσ : i < σ.length := by rw [I.len]; exact (List.getElem?_eq_some_iff.mp hi).1
 have cne := I.cne
 have tracked : ∀ {a : Addr} {h' : Heap}, (∃ o, s.heap.get? a = some o /\ H a = none) -> Heap.SameBut a s.heap h' -> HOk X.prog X.w H h' := fun {a h'} ha hs b ob e => by
  obtain ⟨_, _, hfree⟩ := ha
  refine (I.hok b ob e).stay (fun c w' hc q => (hs.2 c ?_).trans q) (fun _ q => q) fun _ _ q => q
  rintro rfl
  rcases hc with rfl | hc
  ·rw [hfree] at e; cases e
  ·rw [hfree] at hc; cases hc
 rcases hx with hk | hk
 ·refine wpAny_storeName_local hk hn (fun h' hn' hs => ?_) hcls
  obtain ⟨oL, _, _, hoL, _⟩ := id hn
  refine h _ ⟨I.ok, I.os, I.bare, ⟨fun b o e n hb hx => ?_, fun b o e n hb hx => ?_, I.base.free, fun b o e hx => ?_, I.base.tups, I.base.frzs, I.base.tbls⟩, ⟨_, hn', fun j y v' e1 e2 e3 => ?_⟩, fun y c e => ?_, I.free, I.freeC, fun p hp => ?_, tracked ⟨oL, hoL, I.free⟩ hs, by simpa using I.len⟩ ⟨_, hs, .inl rfl⟩
  ·exact (hs.2 b (Nat.ne_of_lt (Nat.lt_of_lt_of_le (Heap.lt_size e) I.ok.above))).trans (I.base.keep b o e n hb hx)
  ·obtain ⟨sl, e1⟩ := I.base.slot b o e n hb hx
   exact ⟨sl, (hs.2 b (Nat.ne_of_lt (Nat.lt_of_lt_of_le (Heap.lt_size e) I.ok.above))).trans e1⟩
  ·obtain ⟨o', e1⟩ := I.base.there b o e hx
   exact ⟨o', (hs.2 b (Nat.ne_of_lt (Nat.lt_of_lt_of_le (Heap.lt_size e) I.ok.above))).trans e1⟩
  ·by_cases hj : j = i
   ·subst hj
    rw [hi] at e1; cases e1
    rw [List.getElem?_set_self hiσ] at e2
    cases e2
    exact ⟨u, r, .inl ⟨hk, by simp⟩⟩
   ·rw [List.getElem?_set_ne (Ne.symm hj)] at e2
    obtain ⟨u', r', q⟩ := hl j y v' e1 e2 e3
    refine ⟨u', r', ?_⟩
    rcases q with ⟨k, e⟩ | ⟨k, c, e, z⟩
    ·refine .inl ⟨k, ?_⟩
     have : y ≠ x := fun e => hj (mf hN e1 (e ▸ hi))
     simp [this, e]
    ·exact .inr ⟨k, c, e, z.sameBut hs (cne y c e)⟩
  ·obtain ⟨w', z⟩ := I.cell y c e
   exact ⟨w', z.sameBut hs (cne y c e)⟩
  ·obtain ⟨e, n, ne, nf, d⟩ := I.pin p hp
   exact ⟨(hs.2 p.1 ne).trans e, n, ne, nf, d⟩
 ·have hfn : X.fn x = true := by
   rcases hf with z | z
   ·exact z
   ·rw [z] at hk; cases hk
  obtain ⟨c, hc⟩ := I.ok.has x (.inl hk)
  obtain ⟨w', z⟩ := I.cell x c hc
  refine wpAny_storeName_cell I.ok.kind hk hc z (fun h' hc' hs => ?_)
  obtain ⟨oc, hoc, hocd⟩ := id z
  refine h { s with heap := h' } ⟨I.ok, I.os, I.bare, ⟨fun b o e n hb hx => ?_, fun b o e n hb hx => ?_, I.base.free, fun b o e hx => ?_, I.base.tups, I.base.frzs, I.base.tbls⟩, ⟨m, hn.sameBut hs (Ne.symm (cne x c hc)), fun j y v' e1 e2 e3 => ?_⟩, fun y c' e => ?_, I.free, I.freeC, fun p hp => ?_, tracked ⟨oc, hoc, I.freeC x c hc⟩ hs, by simpa using I.len⟩ ⟨c, hs, .inr hc⟩
  ·exact (hs.2 b (Nat.ne_of_lt (Nat.lt_of_lt_of_le (Heap.lt_size e) (I.ok.cab x c hfn hc)))).trans (I.base.keep b o e n hb hx)
  ·obtain ⟨sl, e1⟩ := I.base.slot b o e n hb hx
   exact ⟨sl, (hs.2 b (Nat.ne_of_lt (Nat.lt_of_lt_of_le (Heap.lt_size e) (I.ok.cab x c hfn hc)))).trans e1⟩
  ·obtain ⟨o', e1⟩ := I.base.there b o e hx
   exact ⟨o', (hs.2 b (Nat.ne_of_lt (Nat.lt_of_lt_of_le (Heap.lt_size e) (I.ok.cab x c hfn hc)))).trans e1⟩
  ·by_cases hj : j = i
   ·subst hj
    rw [hi] at e1; cases e1
    rw [List.getElem?_set_self hiσ] at e2
    cases e2
    exact ⟨u, r, .inr ⟨.inl hk, c, hc, hc'⟩⟩
   ·rw [List.getElem?_set_ne (Ne.symm hj)] at e2
    obtain ⟨u', r', q⟩ := hl j y v' e1 e2 e3
    refine ⟨u', r', ?_⟩
    rcases q with q | ⟨k, c', e, z'⟩
    ·exact .inl q
    ·refine .inr ⟨k, c', e, z'.sameBut hs ?_⟩
     rintro rfl
     exact hj (mf hN e1 (I.ok.inj _ _ _ e hc ▸ hi))
  ·by_cases hcc : c' = c
   ·subst hcc; exact ⟨_, hc'⟩
   ·obtain ⟨w2, z2⟩ := I.cell y c' e
    exact ⟨w2, z2.sameBut hs hcc⟩
  ·obtain ⟨e, n, ne, nf, d⟩ := I.pin p hp
   refine ⟨(hs.2 p.1 ?_).trans e, n, ne, nf, d⟩
   intro q
   rw [q, hoc] at e
   have q' : oc = p.2 := Option.some.inj e
   exact d w' (by rw [<- q']; exact hocd)
theorem mY {M : Model} {A : Around} {E : Value -> Shared -> Prop} {i : Nat} {x : Str} {v : V} {u : Value} {Q : Unit -> Shared -> Prop} (I : Inv X pins σ H s) (hN : X.N.Nodup) (hi : X.N[i]? = some x) (hx : Loc X.env.scope x) (r : aX v u)
  (h : ∀ s', Inv X pins (σ.set i (some v)) H s' -> Q () s') (hf : X.fn x = true \/ X.env.scope.names.lookup x = some .local := by first | exact .inl rfl | exact .inr rfl | assumption) : wpAny M A (storeName X.env x u) Q E s :=
 jJ I hN hi hx r (fun s' I' _ => h s' I') hf
theorem Inv.call' {s' : Shared} {ch : List Addr} (I : Inv X pins σ H s) (ho : s'.os = s.os) (u : Un (frs X.stack) ch H H' s.heap s'.heap) (hok : HOk X.prog X.w H' s'.heap) (hg : AllBare s'.gens)
  (hch : ∀ b ∈ ch, (b ∈ X.ex \/ X.s₀.heap.objs.size <= b) /\ b ≠ X.env.locals /\ (∀ x c, X.env.cells.lookup x = some c -> c ≠ b) /\ ∀ p ∈ X.pn ++ pins, p.1 ≠ b) : Inv X pins σ H' s' := by
 obtain ⟨h', g', d', t', o'⟩ := s'
 have e : o' = s.os := ho
 subst e
 exact I.call (g' := g') (t' := t') (d' := d') u hok hg hch
end
abbrev XK := Value -> Option Addr -> Hp -> Prop
abbrev St := List (Option V)
abbrev VK := V -> Hp -> Prop
abbrev TE := St -> Hp -> VK -> Prop
abbrev TT := St -> Hp -> (Bool -> Hp -> Prop) -> Prop
abbrev TA := St -> Hp -> (List V -> Hp -> Prop) -> Prop
structure fq where
 nx : St -> Hp -> Prop
 rt : VK
 bk : St -> Hp -> Prop := fun _ _ => False
 ct : St -> Hp -> Prop := fun _ _ => False
abbrev TS := fq -> St -> Hp -> Prop
def EP (X : Cx) (pins : List (Addr × Obj)) (σ : St) (Q : VK) (u : Value) (s' : Shared) : Prop := ∃ v H', Inv X pins σ H' s' /\ aX v u /\ Q v H'
def TP (X : Cx) (pins : List (Addr × Obj)) (σ : St) (Q : Bool -> Hp -> Prop) (b : Bool) (s' : Shared) : Prop := ∃ H', Inv X pins σ H' s' /\ Q b H'
def AP (X : Cx) (pins : List (Addr × Obj)) (σ : St) (Q : List V -> Hp -> Prop) (us : List Value) (s' : Shared) : Prop := ∃ vs H', Inv X pins σ H' s' /\ aU vs us /\ Q vs H'
def SP (X : Cx) (pins : List (Addr × Obj)) (D : fq) (f : Flow) (s' : Shared) : Prop :=
 match f with
 | .next => ∃ σ' H', Inv X pins σ' H' s' /\ D.nx σ' H'
 | .brk => ∃ σ' H', Inv X pins σ' H' s' /\ D.bk σ' H'
 | .cont => ∃ σ' H', Inv X pins σ' H' s' /\ D.ct σ' H'
 | .ret u => ∃ v σ' H', Inv X pins σ' H' s' /\ aX v u /\ D.rt v H'
def PE (X : Cx) (e : Expr) (t : TE) : Prop :=
 ∀ (pins : List (Addr × Obj)) (s : Shared) (σ : St) (H : Hp) (Q : VK), Inv X pins σ H s -> t σ H Q -> wpAny (model X.prog X.w) X.A (eval e X.env) (EP X pins σ Q) X.xe s
def PT (X : Cx) (e : Expr) (t : TT) : Prop :=
 ∀ (pins : List (Addr × Obj)) (s : Shared) (σ : St) (H : Hp) (Q : Bool -> Hp -> Prop), Inv X pins σ H s -> t σ H Q -> wpAny (model X.prog X.w) X.A (isTrue e X.env (eval e X.env)) (TP X pins σ Q) X.xe s
def PW (X : Cx) (e : Expr) (t : TT) : Prop :=
 ∀ (whole : Sem Value) (pins : List (Addr × Obj)) (s : Shared) (σ : St) (H : Hp) (Q : Bool -> Hp -> Prop), Inv X pins σ H s -> t σ H Q -> wpAny (model X.prog X.w) X.A (isTrue e X.env whole) (TP X pins σ Q) X.xe s
theorem PW.pt {X : Cx} {e : Expr} {t : TT} (h : PW X e t) : PT X e t := h _
def PA (X : Cx) (es : List Expr) (t : TA) : Prop :=
 ∀ (pos : Pos) (pins : List (Addr × Obj)) (s : Shared) (σ : St) (H : Hp) (Q : List V -> Hp -> Prop), Inv X pins σ H s -> t σ H Q -> wpAny (model X.prog X.w) X.A (spliced (backTo pos (starEach es X.env))) (AP X pins σ Q) X.xe s
def PS (X : Cx) (st : Stmt) (t : TS) : Prop :=
 ∀ (pins : List (Addr × Obj)) (s : Shared) (σ : St) (H : Hp) (D : fq), Inv X pins σ H s -> t D σ H -> wpAny (model X.prog X.w) X.A (exec st X.env) (SP X pins D) X.xe s
def PSs (X : Cx) (st : List Stmt) (t : TS) : Prop :=
 ∀ (pins : List (Addr × Obj)) (s : Shared) (σ : St) (H : Hp) (D : fq), Inv X pins σ H s -> t D σ H -> wpAny (model X.prog X.w) X.A (execs st X.env) (SP X pins D) X.xe s
theorem thn {α : Type} {t : Sem α} {Q Q' : α -> Shared -> Prop} {M : Model} {A : Around} {E : Value -> Shared -> Prop} {s : Shared} (h : wpAny M A t Q E s) (hQ : ∀ a s, Q a s -> Q' a s) : wpAny M A t Q' E s := wpAny_mono h hQ fun _ _ x => x
section
variable {X : Cx}
def dB (i : Nat) : TE := fun σ H Q => ∃ v, σ[i]? = some (some v) /\ Q v H
def tC (v : V) : TE := fun _ H Q => Q v H
theorem sP {i : Nat} {x : Str} {pos : Pos} (hN : X.N[i]? = some x) (hv : Vis X.env.scope x) (hd : (x == ("__debug__" : Str)) = false := by decide) (hcd : (x == ("__classdict__" : Str)) = false := by decide) : PE X (.Name x pos) (dB i) := by
 intro pins s σ H Q I h
 obtain ⟨v, e, h⟩ := h
 obtain ⟨m, hn, hl⟩ := I.loc
 obtain ⟨u, r, l⟩ := hl i x v hN e hv
 have fin : EP X pins σ Q u s := ⟨v, H, I, r, h⟩
 rcases l with ⟨hk, hm⟩ | ⟨hk, c, hc, hcell⟩
 ·exact wpAny_Name (wpAny_loadName_local I.ok.kind hk hn hm fin) hd
 ·rcases hk with hk | hk
  ·exact wpAny_Name (wpAny_loadName_cell I.ok.kind hk hc hcell fin) hd
  ·exact wpAny_Name (wpAny_loadName_free I.ok.kind hk hc hcell fin hcd) hd
theorem ad {i j pos} : PE X (.Constant (.int i) j pos) (tC (.int i)) := fun _ _ _ H _ I h => wpAny_Constant_int ⟨.int i, H, I.tok _, ⟨_, rfl⟩, h⟩
theorem bW {j pos} : PE X (.Constant .none j pos) (tC .non) := fun _ _ _ H _ I h => Constant_none ⟨.non, H, I, rfl, h⟩
theorem aY {x j pos} : PE X (.Constant (.str x) j pos) (tC (.str x)) := fun _ _ _ H _ I h => Calls.Constant_str ⟨.str x, H, I.tok _, ⟨_, rfl⟩, h⟩
def Gl (X : Cx) (x : Str) : Prop := X.env.kindOf x = some .globalImplicit
theorem pH {E : Value -> Shared -> Prop} {pins : List (Addr × Obj)} {s : Shared} {σ : St} {H : Hp} {x : Str} {u : Value} {pos : Pos} {Q : Value -> Shared -> Prop} (I : Inv X pins σ H s) (hg : Gl X x) (hm : X.mg x = some u) (h : Q u s)
  (hd : (x == ("__debug__" : Str)) = false := by decide) : wpAny (model X.prog X.w) X.A (eval (.Name x pos) X.env) Q E s :=
 Calls.Name_function_global I.ok.kind hg (Calls.loadGlobal_global (by rw [I.ok.glob]; exact I.mod.glob.keeps I.bk) hm h) hd
theorem cU {E : Value -> Shared -> Prop} {pins : List (Addr × Obj)} {s : Shared} {σ : St} {H : Hp} {x : Str} {u : Value} {pos : Pos} {Q : Value -> Shared -> Prop} (I : Inv X pins σ H s) (hg : Gl X x) (hm : X.mg x = none) (hv : bootBuiltins x = some u) (h : Q u s)
  (hn : x ≠ "__name__" := by decide) (hd : (x == ("__debug__" : Str)) = false := by decide) : wpAny (model X.prog X.w) X.A (eval (.Name x pos) X.env) Q E s := by
 obtain ⟨mb, h1, h2⟩ := I.mod.blt
 exact Calls.Name_function_global I.ok.kind hg (Calls.loadGlobal_builtin (by rw [I.ok.glob]; exact I.mod.glob.keeps I.bk) hm (by rw [I.ok.blt]; exact h1.keeps I.bk) ((h2 x hn).trans hv) h) hd
theorem uG {x : Str} {v : V} {u : Value} {pos : Pos} (hg : Gl X x) (hm : X.mg x = some u) (r : aX v u) (hd : (x == ("__debug__" : Str)) = false := by decide) : PE X (.Name x pos) (tC v) :=
 fun _ _ _ H _ I h => pH I hg hm ⟨v, H, I, r, h⟩ hd
theorem uV {x : Str} {v : V} {u : Value} {pos : Pos} (hg : Gl X x) (hm : X.mg x = none) (hv : bootBuiltins x = some u) (r : aX v u) (hn : x ≠ "__name__" := by decide) (hd : (x == ("__debug__" : Str)) = false := by decide) : PE X (.Name x pos) (tC v) :=
 fun _ _ _ H _ I h => cU I hg hm hv ⟨v, H, I, r, h⟩ hn hd
variable {a b : Expr} {ta tb : TE} {pos : Pos}
def tB (t : TE) : TT := fun σ H Q => t σ H fun x H1 => ∃ c, x = .bl c /\ Q c H1
theorem vO {e : Expr} {t : TE} (h : PE X e t) (he : ∀ whole, isTrue e X.env whole = (do let v <- whole; standAt e.pos; holding [v] (truthy v)) := by intro _; rfl) : PT X e (tB t) := by
 intro pins s σ H Q I hw
 refine isTrue_plain (thn (h pins s σ H _ I hw) fun v s1 ⟨x, H1, I1, r1, q1⟩ => ?_) (he _)
 obtain ⟨d, rfl, q⟩ := q1
 cases r1
 exact wpAny_truthy_bool ⟨H1, I1, q⟩
variable {tA tB' : TT} {rest : List Expr}
def vY (t u : TT) : TT := fun σ H Q => t σ H fun c H1 => if c = true then u σ H1 Q else Q false H1
def tOr (t u : TT) : TT := fun σ H Q => t σ H fun c H1 => if c = true then Q true H1 else u σ H1 Q
theorem fg (ha : PT X a tA) : PW X (.BoolOp .And [a] pos) tA := by
 intro wh pins s σ H Q I h
 refine isTrue_and (thn (ha pins s σ H Q I h) fun c s1 e => ?_)
 cases c with
 | true => exact isTrue_and_nil e
 | false => exact e
theorem kZ (ha : PT X a tA) : PW X (.BoolOp .Or [a] pos) tA := by
 intro wh pins s σ H Q I h
 refine isTrue_or (thn (ha pins s σ H Q I h) fun c s1 e => ?_)
 cases c with
 | false => exact isTrue_or_nil e
 | true => exact e
theorem gq (ha : PT X a tA) (hb : PW X (.BoolOp .And (b :: rest) pos) tB') : PW X (.BoolOp .And (a :: b :: rest) pos) (vY tA tB') := by
 intro wh pins s σ H Q I h
 refine isTrue_and (thn (ha pins s σ H _ I h) fun c s1 ⟨H1, I1, q1⟩ => ?_)
 cases c with
 | true => exact hb wh pins s1 σ H1 Q I1 q1
 | false => exact ⟨H1, I1, q1⟩
theorem oU (ha : PT X a tA) (hb : PW X (.BoolOp .Or (b :: rest) pos) tB') : PW X (.BoolOp .Or (a :: b :: rest) pos) (tOr tA tB') := by
 intro wh pins s σ H Q I h
 refine isTrue_or (thn (ha pins s σ H _ I h) fun c s1 ⟨H1, I1, q1⟩ => ?_)
 cases c with
 | true => exact ⟨H1, I1, q1⟩
 | false => exact hb wh pins s1 σ H1 Q I1 q1
def wO (ta tb : TE) : TE := fun σ H Q => ta σ H fun x H1 => ∃ c, x = .bl c /\ if c = true then tb σ H1 Q else Q (.bl false) H1
theorem vJ {op} {t : TE} (h : PE X a t) : PE X (.BoolOp op [a] pos) t := fun pins s σ H Q I hw => BoolOp_one (h pins s σ H Q I hw)
theorem rk (ha : PE X a ta) (hb : PE X (.BoolOp .And (b :: rest) pos) tb) : PE X (.BoolOp .And (a :: b :: rest) pos) (wO ta tb) := by
 intro pins s σ H Q I h
 refine BoolOp_and (thn (ha pins s σ H _ I h) fun v s1 ⟨x, H1, I1, r1, q1⟩ => ?_)
 obtain ⟨c, rfl, q1⟩ := q1
 cases r1
 refine wpAny_truthy_bool ?_
 cases c with
 | true => exact hb pins s1 σ H1 Q I1 q1
 | false => exact ⟨.bl false, H1, I1, rfl, q1⟩
def tIf (t : TT) (ta tb : TE) : TE := fun σ H Q => t σ H fun c H1 => if c = true then ta σ H1 Q else tb σ H1 Q
theorem rT {c : Expr} (hc : PT X c tA) (ha : PE X a ta) (hb : PE X b tb) : PE X (.IfExp c a b pos) (tIf tA ta tb) := by
 intro pins s σ H Q I h
 refine wpAny_IfExp (thn (hc pins s σ H _ I h) fun d s1 ⟨H1, I1, q1⟩ => ?_)
 cases d with
 | true => exact ha pins s1 σ H1 Q I1 q1
 | false => exact hb pins s1 σ H1 Q I1 q1
end
def SqL (K : PySem.W.Frag) (H : Hp) (a : Addr) (xs : List V) : Prop :=
 Rd H a (.lst xs) \/
  ∃ (o : Obj) (its : Array Value) (n : Nat), K.lookup a = some o /\ o.cls = .type "list" /\ o.dict = none /\ o.data = .seq its n /\ its.size <= sizeLine /\ aU xs its.toList
def SqT (K : PySem.W.Frag) (H : Hp) (a : Addr) (xs : List V) : Prop :=
 Rd H a (.tup xs) \/
  ∃ (o : Obj) (its : Array Value) (n : Nat), K.lookup a = some o /\ o.cls = .type "tuple" /\ o.data = .seq its n /\ its.size <= sizeLine /\ aU xs its.toList
def xB : Value -> Option V
 | .none => some .non
 | .bool b => some (.bl b)
 | .int i _ => some (.int i)
 | .str x _ => some (.str x)
 | .bytes b _ => some (.byt b)
 | .float b _ => some (.flt b)
 | .ref a => some (.ref a)
 | .type n => some (.ty n)
 | _ => none
theorem aX.abs {x : V} {u : Value} (r : aX x u) : xB u = some x := by
 cases x with
 | non => cases r; rfl
 | bl _ => cases r; rfl
 | int _ => obtain ⟨t, rfl⟩ := r; rfl
 | str _ => obtain ⟨t, rfl⟩ := r; rfl
 | byt _ => obtain ⟨t, rfl⟩ := r; rfl
 | flt _ => obtain ⟨t, rfl⟩ := r; rfl
 | ref _ => cases r; rfl
 | ty _ => cases r; rfl
theorem aX.inj {x y : V} {u : Value} (r : aX x u) (q : aX y u) : x = y := Option.some.inj (r.abs.symm.trans q.abs)
theorem aU.inj : ∀ {xs ys : List V} {us : List Value}, aU xs us -> aU ys us -> xs = ys
 | _, _, _, .nil, .nil => rfl
 | _, _, _, .cons r t, .cons r' t' => by rw [r.inj r', aU.inj t t']
section
variable {X : Cx} {pins : List (Addr × Obj)} {σ : St} {H : Hp} {s : Shared} {a : Addr} {xs ys : List V}
theorem SqL.of {K : PySem.W.Frag} (h : H a = some (.lst xs)) : SqL K H a xs := .inl (.inl h)
theorem SqT.of {K : PySem.W.Frag} (h : H a = some (.tup xs)) : SqT K H a xs := .inl (.inl h)
theorem Inv.list (I : Inv X pins σ H s) (h : SqL X.K H a xs) : ∃ its : List Value, aU xs its /\ PlainL s.heap a its.toArray /\ xs.length <= sizeLine := by
 rcases h with h | ⟨o, its, n, hk, hc, hd, hs, hz, r⟩
 ·obtain ⟨z, its, n, r, e⟩ := h.ok I.hok
  exact ⟨its, r, ⟨_, n, e, rfl, rfl, rfl⟩, z⟩
 ·refine ⟨its.toList, r, ⟨o, n, I.kIn a o hk, hc, hd, by simpa using hs⟩, ?_⟩
  have e := r.length
  simp only [Array.length_toList] at e
  omega
theorem Inv.tuple (I : Inv X pins σ H s) (h : SqT X.K H a xs) : ∃ its : List Value, aU xs its /\ IsTup s.heap a its.toArray /\ xs.length <= sizeLine := by
 rcases h with h | ⟨o, its, n, hk, hc, hs, hz, r⟩
 ·obtain ⟨z, its, r, p⟩ := h.ok I.hok
  exact ⟨its, r, p.1, z⟩
 ·refine ⟨its.toList, r, ⟨o, I.kIn a o hk, hc, n, by simpa using hs⟩, ?_⟩
  have e := r.length
  simp only [Array.length_toList] at e
  omega
theorem Inv.list_inj (I : Inv X pins σ H s) (h : SqL X.K H a xs) (h' : SqL X.K H a ys) : xs = ys := by
 obtain ⟨its, r, ⟨o, n, e, _, _, d⟩, _⟩ := I.list h
 obtain ⟨its', r', ⟨o', n', e', _, _, d'⟩, _⟩ := I.list h'
 rw [e] at e'; cases e'
 rw [d] at d'
 injection d' with d1 _
 have : its = its' := by simpa using congrArg Array.toList d1
 subst this
 exact r.inj r'
theorem Inv.tuple_inj (I : Inv X pins σ H s) (h : SqT X.K H a xs) (h' : SqT X.K H a ys) : xs = ys := by
 obtain ⟨its, r, ⟨o, e, _, n, d⟩, _⟩ := I.tuple h
 obtain ⟨its', r', ⟨o', e', _, n', d'⟩, _⟩ := I.tuple h'
 rw [e] at e'; cases e'
 rw [d] at d'
 injection d' with d1 _
 have : its = its' := by simpa using congrArg Array.toList d1
 subst this
 exact r.inj r'
end
abbrev Cx.wish (X : Cx) (E : Value -> Shared -> Prop) : Cx := { X with xe := E }
abbrev Cx.nox (X : Cx) : Cx := X.wish fun _ _ => False
theorem Cx.Ok.wish {X : Cx} (ok : X.Ok) (E : Value -> Shared -> Prop) : (X.wish E).Ok :=
 ⟨ok.mod, ok.kind, ok.glob, ok.blt, ok.above, ok.inj, ok.has, ok.cab, ok.hd, ok.frames, ok.stk, ok.exf, ok.bs, ok.bsz, ok.noex, ok.exfs, ok.funs, ok.frf⟩
theorem Cx.Ok.unwish {X : Cx} {E : Value -> Shared -> Prop} (ok : (X.wish E).Ok) : X.Ok :=
 ⟨ok.mod, ok.kind, ok.glob, ok.blt, ok.above, ok.inj, ok.has, ok.cab, ok.hd, ok.frames, ok.stk, ok.exf, ok.bs, ok.bsz, ok.noex, ok.exfs, ok.funs, ok.frf⟩
section
variable {X : Cx} {pins : List (Addr × Obj)} {σ : St} {H : Hp} {s : Shared} {E : Value -> Shared -> Prop}
theorem Inv.wish (I : Inv X pins σ H s) (E : Value -> Shared -> Prop) : Inv (X.wish E) pins σ H s := ⟨I.ok.wish E, I.os, I.bare, I.base, I.loc, I.cell, I.free, I.freeC, I.pin, I.hok, I.len⟩
theorem Inv.unwish (I : Inv (X.wish E) pins σ H s) : Inv X pins σ H s := ⟨I.ok.unwish, I.os, I.bare, I.base, I.loc, I.cell, I.free, I.freeC, I.pin, I.hok, I.len⟩
theorem SP.unwish {D : fq} {f : Flow} {s' : Shared} (h : SP (X.wish E) pins D f s') : SP X pins D f s' := by
 cases f with
 | next => obtain ⟨σ', H', I, q⟩ := h; exact ⟨σ', H', I.unwish, q⟩
 | brk => obtain ⟨σ', H', I, q⟩ := h; exact ⟨σ', H', I.unwish, q⟩
 | cont => obtain ⟨σ', H', I, q⟩ := h; exact ⟨σ', H', I.unwish, q⟩
 | ret u => obtain ⟨v, σ', H', I, r, q⟩ := h; exact ⟨v, σ', H', I.unwish, r, q⟩
theorem PSs.nox {st : List Stmt} {t : TS} (h : PSs X.nox st t) : PSs X st t := fun pins s σ H D I hw =>
 wpAny_mono (h pins s σ H D (I.wish _) hw) (fun _ _ q => q.unwish) fun _ _ z => False.elim z
end
section
variable {X : Cx} {st : Stmt} {rest : List Stmt} {t u : TS} {e : Expr} {te : TE} {pos : Pos}
def vt : TS := fun D σ H => D.nx σ H
def vc (t u : TS) : TS := fun D σ H => t { D with nx := u D } σ H
theorem aS : PSs X [] vt := fun _ _ σ H _ I h => wpAny_execs_nil ⟨σ, H, I, h⟩
theorem ag (h1 : PS X st t) (h2 : PSs X rest u) : PSs X (st :: rest) (vc t u) := by
 intro pins s σ H D I h
 refine wpAny_execs_cons (thn (h1 pins s σ H { D with nx := u D } I h) fun f s1 q => ?_)
 cases f with
 | next =>
  obtain ⟨σ', H', I', q⟩ := q
  exact h2 pins s1 σ' H' D I' q
 | ret v => exact q
 | brk => exact q
 | cont => exact q
theorem ak (h1 : PS X st t) : PSs X [st] t := by
 intro pins s σ H D I h
 refine wpAny_execs_cons (thn (h1 pins s σ H D I h) fun f s1 q => ?_)
 cases f with
 | next => exact wpAny_execs_nil q
 | ret v => exact q
 | brk => exact q
 | cont => exact q
theorem Inv.quiet {pins : List (Addr × Obj)} {σ : St} {H : Hp} {s : Shared} (I : Inv X pins σ H s) : interactive X.env = false := by simp [interactive, I.ok.kind]
def xg (te : TE) : TS := fun D σ H => te σ H fun _ H1 => D.nx σ H1
theorem fZ (he : PE X e te) (hs : swapsWith e none pos.line X.env = pure false := by rfl) : PS X (.Expr e pos) (xg te) := by
 intro pins s σ H D I h
 exact wpAny_Expr_any (thn (he pins s σ H _ I h) fun v s1 ⟨x, H1, I1, r1, q1⟩ => ⟨σ, H1, I1, q1⟩) I.quiet hs
def xr (te : TE) : TS := fun D σ H => te σ H D.rt
theorem aE (he : PE X e te) : PS X (.Return (some e) pos) (xr te) := by
 intro pins s σ H D I h
 exact wpAny_Return_some (thn (he pins s σ H _ I h) fun v s1 ⟨x, H1, I1, r1, q1⟩ => ⟨x, σ, H1, I1, r1, q1⟩)
def xt (c : TT) (t u : TS) : TS := fun D σ H => c σ H fun b H1 => if b = true then t D σ H1 else u D σ H1
theorem bi {c : Expr} {a b : List Stmt} {tc : TT} (hc : PT X c tc) (ha : PSs X a t) (hb : PSs X b u) : PS X (.If c a b pos) (xt tc t u) := by
 intro pins s σ H D I h
 refine wpAny_If (thn (hc pins s σ H _ I h) fun d s1 ⟨H1, I1, q1⟩ => ?_)
 cases d with
 | true => exact ha pins s1 σ H1 D I1 q1
 | false => exact hb pins s1 σ H1 D I1 q1
end
abbrev TG := V -> St -> Hp -> (St -> Hp -> Prop) -> Prop
abbrev TGs := List V -> St -> Hp -> (St -> Hp -> Prop) -> Prop
def PG (X : Cx) (target : Expr) (t : TG) : Prop :=
 ∀ (pins : List (Addr × Obj)) (s : Shared) (σ : St) (H : Hp) (v : V) (u : Value) (Q : St -> Hp -> Prop), Inv X pins σ H s -> aX v u -> t v σ H Q ->
  wpAny (model X.prog X.w) X.A (assign target X.env u) (fun _ s' => ∃ σ' H', Inv X pins σ' H' s' /\ Q σ' H') X.xe s
def PGs (X : Cx) (ts : List Expr) (t : TGs) : Prop :=
 ∀ (pins : List (Addr × Obj)) (s : Shared) (σ : St) (H : Hp) (vs : List V) (us : List Value) (Q : St -> Hp -> Prop), Inv X pins σ H s -> aU vs us -> t vs σ H Q ->
  wpAny (model X.prog X.w) X.A (assignInOrder ((assignEach ts X.env).map (·.2)) us) (fun _ s' => ∃ σ' H', Inv X pins σ' H' s' /\ Q σ' H') X.xe s
abbrev vE := V -> V -> V -> Hp -> (Hp -> Prop) -> Prop
def wI (X : Cx) (t : vE) : Prop :=
 ∀ (pins : List (Addr × Obj)) (s : Shared) (σ : St) (H : Hp) (o i v : V) (ov iv u : Value) (Q : Hp -> Prop), Inv X pins σ H s -> aX o ov -> aX i iv -> aX v u -> t o i v H Q ->
  wpAny (model X.prog X.w) X.A (setItem ov iv u) (fun _ s' => ∃ H', Inv X pins σ H' s' /\ Q H') X.xe s
section
variable {X : Cx} {pos : Pos}
def ev (i : Nat) : TG := fun v σ H Q => Q (σ.set i (some v)) H
theorem aG {i : Nat} {x : Str} (hN : X.N.Nodup) (hi : X.N[i]? = some x) (hx : Loc X.env.scope x) (hf : X.fn x = true \/ X.env.scope.names.lookup x = some .local := by first | exact .inl rfl | exact .inr rfl | assumption) : PG X (.Name x pos) (ev i) := by
 intro pins s σ H v u Q I r h
 exact wpAny_assign_Name (mY I hN hi hx r (fun s' I' => ⟨_, H, I', h⟩) hf)
def pZ : TGs := fun vs σ H Q => vs = [] /\ Q σ H
def gW (t : TG) (u : TGs) : TGs := fun vs σ H Q => ∃ v r, vs = v :: r /\ t v σ H fun σ' H' => u r σ' H' Q
theorem bA : PGs X [] pZ := by
 intro pins s σ H vs us Q I r h
 obtain ⟨e, h⟩ := h
 subst e
 cases r
 exact assignInOrder_nil ⟨σ, H, I, h⟩
theorem aQ {e : Expr} {es : List Expr} {t : TG} {u : TGs} (h1 : PG X e t) (h2 : PGs X es u)
  (hs : (assignEach (e :: es) X.env).map (·.2) = assign e X.env :: (assignEach es X.env).map (·.2) := by rfl) : PGs X (e :: es) (gW t u) := by
 intro pins s σ H vs us Q I r h
 obtain ⟨v, vr, e1, h⟩ := h
 subst e1
 cases r with
 | cons r rr =>
  rw [hs]
  refine assignInOrder_cons (thn (h1 pins s σ H _ _ _ I r h) fun _ s1 ⟨σ1, H1, I1, q1⟩ => ?_)
  exact h2 pins s1 σ1 H1 _ _ Q I1 rr q1
def uX (K : PySem.W.Frag) (n : Nat) (t : TGs) : TG := fun v σ H Q => ∃ a xs, v = .ref a /\ SqT K H a xs /\ xs.length = n /\ t xs σ H Q
theorem bT {es : List Expr} {k : Nat} {t : TGs} {n : Nat} (hc : X.calm = true) (h : PGs X es t)
  (hn : (assignEach es X.env).length = n := by rfl) (hst : (assignEach es X.env).findIdx? (·.1) = none := by rfl) : PG X (.Tuple es k pos) (uX X.K n t) := by
 intro pins s σ H v u Q I r hw
 obtain ⟨a, xs, e1, hq, hl, hw⟩ := hw
 subst e1
 cases r
 obtain ⟨its, rv, ht, hz⟩ := I.tuple hq
 refine assign_Tuple_tuple (I.ok.hd hc) ht (by simp [hn, <- hl, rv.length]) hst fun h' hx => ?_
 have I1 : Inv X pins σ H { s with heap := h' } := I.kept (t' := s.toks) fun b o e => hx b o (Nat.ne_of_lt (Heap.lt_size e)) e
 exact h pins _ σ H xs _ Q I1 (by simpa using rv) hw
def xj (to ti : TE) (t : vE) : TG := fun v σ H Q => to σ H fun o H1 => ti σ H1 fun i H2 => t o i v H2 fun H3 => Q σ H3
theorem wC {o i : Expr} {to ti : TE} {t : vE} (ho : PE X o to) (hi : PE X i ti) (hs : wI X t)
  (ha : ∀ v, assign (.Subscript o i pos) X.env v = (do
   let ov <- holding [v] (eval o X.env)
   let iv <- holding [v, ov] (eval i X.env)
   standAt pos
   holding [v, ov, iv] (setItem ov iv v)
   release [v, ov, iv] []) := by intro _; rfl) : PG X (.Subscript o i pos) (xj to ti t) := by
 intro pins s σ H v u Q I r h
 rw [ha]
 refine wpAny_bind (wpAny_holding (thn (ho pins s σ H _ I h) fun ov s1 ⟨x, H1, I1, r1, q1⟩ => ?_))
 refine wpAny_bind (wpAny_holding (thn (hi pins s1 σ H1 _ I1 q1) fun iv s2 ⟨y, H2, I2, r2, q2⟩ => ?_))
 refine wpAny_bind (wpAny_standAt (wpAny_bind (wpAny_holding (thn (hs pins s2 σ H2 x y v ov iv u _ I2 r1 r2 r q2) fun _ s3 ⟨H3, I3, q3⟩ => ?_))))
 exact wpAny_release ⟨σ, H3, I3, q3⟩
def ut (te : TE) (g : TG) : TS := fun D σ H => te σ H fun x H1 => g x σ H1 D.nx
theorem rB {tg e : Expr} {te : TE} {g : TG} (he : PE X e te) (hg : PG X tg g) (hs : swapsWithSole [tg] e pos.line X.env = pure false := by rfl) (hw : swappedStores [tg] e X.env = pure none := by rfl)
  (h1 : (assignEach [tg] X.env).map (·.2) = [assign tg X.env] := by rfl) : PS X (.Assign [tg] e pos) (ut te g) := by
 intro pins s σ H D I h
 refine wpAny_Assign_stores (thn (he pins s σ H _ I h) fun v s1 ⟨x, H1, I1, r1, q1⟩ => ?_) hs hw
 rw [h1]
 exact thn (hg pins s1 σ H1 x v _ I1 r1 q1) fun _ s2 q => q
theorem aM {i : Nat} {x : Str} {e : Expr} {te : TE} {pos' : Pos} (hN : X.N.Nodup) (hi : X.N[i]? = some x) (hx : Loc X.env.scope x) (he : PE X e te) (hs : swapsWith e (some (.Name x pos')) pos.line X.env = pure false := by rfl) (hf : X.fn x = true \/ X.env.scope.names.lookup x = some .local := by first | exact .inl rfl | exact .inr rfl | assumption) :
  PS X (.Assign [.Name x pos'] e pos) (ut te (ev i)) := by
 intro pins s σ H D I h
 refine wpAny_Assign_Name (thn (he pins s σ H _ I h) fun v s1 ⟨y, H1, I1, r1, q1⟩ => ?_) hs
 exact mY I1 hN hi hx r1 (fun s2 I2 => ⟨_, H1, I2, q1⟩) hf
end
section
variable {X : Cx} {pos : Pos}
def tj (c : TT) (tb : TS) : TS := fun D σ H => ∃ W : Nat -> St -> Hp -> Prop, (∃ m, W m σ H) /\ ∀ m σ H, W m σ H ->
 c σ H fun b H1 => if b = true then ∃ N : St -> Hp -> Prop, (∀ σ' H', N σ' H' -> ∃ m', m' < m /\ W m' σ' H') /\ tb { D with nx := N, ct := N, bk := D.nx } σ H1 else D.nx σ H1
theorem rq {c : Expr} {body : List Stmt} {tc : TT} {tb : TS} (hp : PassesOwn (model X.prog X.w) X.A X.env X.xe) (hc : PT X c tc) (hb : PSs X body tb) : PS X (.While c body [] pos) (tj tc tb) := by
 intro pins s σ H D I h
 obtain ⟨W, ⟨m0, w0⟩, turn⟩ := h
 refine wpAny_While (codeAny_whileLoop (fun n s' => ∃ σ' H', Inv X pins σ' H' s' /\ W n σ' H') ?_ m0 ⟨σ, H, I, w0⟩)
 rintro n s1 ⟨σ1, H1, I1, w1⟩
 refine wpAny_passesOwn hp (thn (hc pins s1 σ1 H1 _ I1 (turn n σ1 H1 w1)) fun b s2 ⟨H2, I2, q2⟩ => ?_)
 cases b with
 | true =>
  obtain ⟨N, hN, q2⟩ := q2
  rw [if_pos rfl]
  refine wpAny_passesOwn hp (thn (hb pins s2 σ1 H2 _ I2 q2) fun f s3 q3 => ?_)
  cases f with
  | next =>
   obtain ⟨σ3, H3, I3, n3⟩ := q3
   obtain ⟨m', hm, w3⟩ := hN σ3 H3 n3
   exact ⟨m', hm, σ3, H3, I3, w3⟩
  | cont =>
   obtain ⟨σ3, H3, I3, n3⟩ := q3
   obtain ⟨m', hm, w3⟩ := hN σ3 H3 n3
   exact ⟨m', hm, σ3, H3, I3, w3⟩
  | brk => exact q3
  | ret v => exact q3
 | false =>
  rw [if_neg Bool.false_ne_true]
  exact wpAny_execs_nil ⟨σ1, H2, I2, q2⟩
end
structure It where
 go : Nat -> Hp -> Prop
 yld : Nat -> Hp -> V -> Hp -> Prop
 stop : Nat -> Hp -> Prop
def iH (X : Cx) (pins : List (Addr × Obj)) (H : Hp) (b : Addr) : Prop :=
 H b = none /\ b ≠ X.env.locals /\ b ∉ X.fs /\ (b ∈ X.ex \/ X.s₀.heap.objs.size <= b) /\ (∀ x c, X.env.cells.lookup x = some c -> c ≠ b) /\ ∀ p ∈ X.pn ++ pins, p.1 ≠ b
theorem Inv.fpOk {X : Cx} {pins : List (Addr × Obj)} {σ : St} {H H' : Hp} {s : Shared} {b : Addr} (I : Inv X pins σ H s) (hb : s.heap.objs.size <= b) (hn : H' b = none) : iH X pins H' b := by
 refine ⟨hn, Nat.ne_of_gt (Nat.lt_of_lt_of_le I.lt hb), I.nofs hb, .inr (Nat.le_trans I.sz hb), fun x c e z => ?_, fun p hp z => ?_⟩
 ·obtain ⟨v, q⟩ := I.cell x c e
  exact absurd (Nat.lt_of_lt_of_le q.lt (by rw [z]; exact hb)) (Nat.lt_irrefl _)
 ·exact absurd (Nat.lt_of_lt_of_le (Heap.lt_size (I.pin p hp).1) (by rw [z]; exact hb)) (Nat.lt_irrefl _)
structure iQ (P : Program) (w : World) (K : PySem.W.Frag) (tg : Expr) (J : It) (fp : List Addr) (it : Addr) (tn : Nat -> Heap -> Prop) : Prop where
 mem : it ∈ fp
 obj : ∀ i h, tn i h -> ∀ b ∈ fp, ∃ o, h.get? b = some o /\ ∀ v, o.data ≠ .cell v
 keep : ∀ i h h', tn i h -> (∀ b ∈ fp, ∀ o, h.get? b = some o -> h'.get? b = some o) -> tn i h'
 item : ∀ (X : Cx), X.prog = P -> X.w = w -> X.K = K -> X.calm = true -> ∀ (i : Nat) (pins : List (Addr × Obj)) (s : Shared) (σ : St) (H : Hp) (E : Value -> Shared -> Prop), Inv X pins σ H s -> (∀ b ∈ fp, iH X pins H b) -> tn i s.heap -> J.go i H ->
  wpAny (model P w) X.A (pyNext (.ref it)) (fun r s1 => ∃ u, r = some u /\
   wpAny (model P w) X.A (letOwnedTupleGo tg (.ref it) u) (fun _ s2 => ∃ x H', Inv X pins σ H' s2 /\ aX x u /\ J.yld i H x H' /\ tn (i + 1) s2.heap /\ ∀ b ∈ fp, H' b = none) E s1) E s
 done : ∀ (X : Cx), X.prog = P -> X.w = w -> X.K = K -> X.calm = true -> ∀ (i : Nat) (pins : List (Addr × Obj)) (s : Shared) (σ : St) (H : Hp) (E : Value -> Shared -> Prop), Inv X pins σ H s -> (∀ b ∈ fp, iH X pins H b) -> tn i s.heap -> J.stop i H ->
  wpAny (model P w) X.A (pyNext (.ref it)) (fun r s1 => r = none /\ Inv X pins σ H s1) E s
 self : ∀ (A : Around) (i : Nat) (s : Shared) (Q : Value -> Shared -> Prop) (E : Value -> Shared -> Prop), tn i s.heap -> Q (.ref it) s -> wpAny (model P w) A (pyIter (.ref it)) Q E s
abbrev TI := St -> Hp -> (It -> Hp -> Prop) -> Prop
def PIE (X : Cx) (pins : List (Addr × Obj)) (σ : St) (tg : Expr) (R : It -> Hp -> Prop) (itv : Value) (s2 : Shared) : Prop :=
 ∃ (it : Addr) (fp : List Addr) (tn : Nat -> Heap -> Prop) (J : It) (H' : Hp), itv = .ref it /\ Inv X pins σ H' s2 /\ iQ X.prog X.w X.K tg J fp it tn /\ tn 0 s2.heap /\ (∀ b ∈ fp, iH X pins H' b) /\ R J H'
def PI (X : Cx) (tg iter : Expr) (wi : TI) : Prop :=
 ∀ (pins : List (Addr × Obj)) (s : Shared) (σ : St) (H : Hp) (R : It -> Hp -> Prop), Inv X pins σ H s -> wi σ H R ->
  wpAny (model X.prog X.w) X.A (eval iter X.env) (fun v s1 => wpAny (model X.prog X.w) X.A (pyIter v) (PIE X pins σ tg R) X.xe s1) X.xe s
theorem mQ {M : Model} {A : Around} {E : Value -> Shared -> Prop} {s : Shared} {tg : Expr} {it : Addr} {u : Value} {o : Obj} {n : String} {vs : Array Value} {Q : Unit -> Shared -> Prop} (ho : s.heap.get? it = some o) (hc : o.cls = .type n) (hd : o.data = .fields vs)
  (hn : ["enumerate", "zip", "dict_itemiterator", "dict_reverseitemiterator", "odict_iterator", "itertools.zip_longest", "itertools.pairwise"].contains n = false) (hQ : Q () s) : wpAny M A (letOwnedTupleGo tg (.ref it) u) Q E s := by
 unfold letOwnedTupleGo
 cases tg <;> first
  | exact wpAny_pure hQ
  | (cases u <;> first
    | exact wpAny_pure hQ
    | (refine wpAny_bind (wpAny_load ho ?_)
       rw [hc, hd]
       show wpAny M A (if (["enumerate", "zip", "dict_itemiterator", "dict_reverseitemiterator", "odict_iterator", "itertools.zip_longest", "itertools.pairwise"].contains n && vs[0]? == some (rawInt _)) = true then _ else _) Q E s
       rw [if_neg (by intro h; rw [hn, Bool.false_and] at h; cases h)]
       exact wpAny_pure hQ))
def Itl (K : PySem.W.Frag) (a : Addr) : It :=
 ⟨fun i H => ∃ xs x, SqL K H a xs /\ xs[i]? = some x, fun i H x H' => H' = H /\ ∀ xs, SqL K H a xs -> xs[i]? = some x, fun i H => ∃ xs, SqL K H a xs /\ xs.length <= i⟩
def Itt (K : PySem.W.Frag) (a : Addr) : It :=
 ⟨fun i H => ∃ xs x, SqT K H a xs /\ xs[i]? = some x, fun i H x H' => H' = H /\ ∀ xs, SqT K H a xs -> xs[i]? = some x, fun i H => ∃ xs, SqT K H a xs /\ xs.length <= i⟩
def Itr (lo : Int) (n : Nat) : It := ⟨fun i _ => i < n, fun i H x H' => H' = H /\ x = .int (lo + i), fun i _ => n <= i⟩
theorem qv {P : Program} {w : World} {K : PySem.W.Frag} {tg : Expr} (a it : Addr) : iQ P w K tg (Itl K a) [it] it (fun i h => h.IsListIter it a i) where
 mem := by simp
 obj := fun i h st b hb => by
  have e : b = it := by simpa using hb
  subst e
  obtain ⟨o, e, c, d⟩ := st
  exact ⟨o, e, fun v z => by rw [d] at z; cases z⟩
 keep := fun i h h' st k => st.at fun o e => k it (by simp) o e
 item := by
  intro X hP hw hK hc i pins s σ H E I hf st hg
  subst hP hw hK
  obtain ⟨xs, x, hq, hx⟩ := hg
  obtain ⟨its, rv, p, hz⟩ := I.list hq
  obtain ⟨u, hu, ru⟩ := rv.get hx
  obtain ⟨f0, f1, f2, f3, f4, f5⟩ := hf it (by simp)
  refine wpAny_pyNext_list_item st p.isList (x := u) (by simpa using hu) fun h' st' sb => ?_
  have I1 : Inv X pins σ H { s with heap := h' } := I.turned (t' := s.toks) (fun b o hb e => (sb.2 b hb).trans e) f0 f1 f3 f4 f5
  obtain ⟨o, e, c, d⟩ := id st'
  exact ⟨u, rfl, mQ (s := { s with heap := h' }) e c d (by decide) ⟨x, H, I1, ru, ⟨rfl, fun ys hy => by rw [I.list_inj hy hq]; exact hx⟩, st', fun b hb => (hf b hb).1⟩⟩
 done := by
  intro X hP hw hK hc i pins s σ H E I hf st hg
  subst hP hw hK
  obtain ⟨xs, hq, hx⟩ := hg
  obtain ⟨its, rv, p, hz⟩ := I.list hq
  obtain ⟨f0, f1, f2, f3, f4, f5⟩ := hf it (by simp)
  have hl := rv.length
  exact wpAny_pyNext_list_end (I.ok.hd hc) st p.isList (by simp; omega) fun h' eb => ⟨rfl, I.turned (t' := s.toks) (fun b o hb e => eb b o hb e) f0 f1 f3 f4 f5⟩
 self := fun _ _ _ _ _ st h => wpAny_pyIter_listiter st h
theorem oo {P : Program} {w : World} {K : PySem.W.Frag} {tg : Expr} (a it : Addr) : iQ P w K tg (Itt K a) [it] it (fun i h => h.IsTupleIter it a i) where
 mem := by simp
 obj := fun i h st b hb => by
  have e : b = it := by simpa using hb
  subst e
  obtain ⟨o, e, c, d⟩ := st
  exact ⟨o, e, fun v z => by rw [d] at z; cases z⟩
 keep := fun i h h' st k => st.at fun o e => k it (by simp) o e
 item := by
  intro X hP hw hK hc i pins s σ H E I hf st hg
  subst hP hw hK
  obtain ⟨xs, x, hq, hx⟩ := hg
  obtain ⟨its, rv, p, hz⟩ := I.tuple hq
  obtain ⟨u, hu, ru⟩ := rv.get hx
  obtain ⟨f0, f1, f2, f3, f4, f5⟩ := hf it (by simp)
  refine wpAny_pyNext_tuple_item st (show s.heap.IsTuple a its.toArray from p) (x := u) (by simpa using hu) fun h' st' sb => ?_
  have I1 : Inv X pins σ H { s with heap := h' } := I.turned (t' := s.toks) (fun b o hb e => (sb.2 b hb).trans e) f0 f1 f3 f4 f5
  obtain ⟨o, e, c, d⟩ := id st'
  exact ⟨u, rfl, mQ (s := { s with heap := h' }) e c d (by decide) ⟨x, H, I1, ru, ⟨rfl, fun ys hy => by rw [I.tuple_inj hy hq]; exact hx⟩, st', fun b hb => (hf b hb).1⟩⟩
 done := by
  intro X hP hw hK hc i pins s σ H E I hf st hg
  subst hP hw hK
  obtain ⟨xs, hq, hx⟩ := hg
  obtain ⟨its, rv, p, hz⟩ := I.tuple hq
  obtain ⟨f0, f1, f2, f3, f4, f5⟩ := hf it (by simp)
  have hl := rv.length
  exact wpAny_pyNext_tuple_end (I.ok.hd hc) st (show s.heap.IsTuple a its.toArray from p) (by simp; omega) fun h' eb => ⟨rfl, I.turned (t' := s.toks) (fun b o hb e => eb b o hb e) f0 f1 f3 f4 f5⟩
 self := fun _ _ _ _ _ st h => wpAny_pyIter_tupleiter st h
theorem oC {P : Program} {w : World} {K : PySem.W.Frag} {tg : Expr} (it : Addr) (lo : Int) (n : Nat) : iQ P w K tg (Itr lo n) [it] it (fun i h => IsRangeIter h it (lo + (i : Nat) * 1) ((n : Int) - (i : Nat)) 1) where
 mem := by simp
 obj := fun i h st b hb => by
  have e : b = it := by simpa using hb
  subst e
  exact ⟨_, st, fun v z => by
   have z' : Data.fields _ = Data.cell v := z
   cases z'⟩
 keep := fun i h h' st k => k it (by simp) _ st
 item := by
  intro X hP hw hK hc i pins s σ H E I hf st hg
  subst hP hw hK
  obtain ⟨f0, f1, f2, f3, f4, f5⟩ := hf it (by simp)
  have W := Walks.range (prog := X.prog) (w := X.w) (I.ok.hd hc) it lo 1 n
  refine W.item i s _ _ hg st fun v h' tk hv st' kk => ?_
  obtain ⟨t, rfl⟩ := hv
  have I1 : Inv X pins σ H { s with heap := h', toks := tk } := I.turned (fun b o hb e => kk b o (by simpa using hb) e) f0 f1 f3 f4 f5
  refine ⟨_, rfl, mQ (s := { s with heap := h', toks := tk }) (n := "range_iterator") st' rfl rfl (by decide) ⟨.int (lo + i), H, I1, ⟨t, ?_⟩, ⟨rfl, rfl⟩, st', fun b hb => (hf b hb).1⟩⟩
  rw [Int.mul_one]
 done := by
  intro X hP hw hK hc i pins s σ H E I hf st hg
  subst hP hw hK
  obtain ⟨f0, f1, f2, f3, f4, f5⟩ := hf it (by simp)
  exact wpAny_pyNext_range_end (I.ok.hd hc) st (by have : n <= i := hg; omega) fun h' eb => ⟨rfl, I.turned (t' := s.toks) (fun b o hb e => eb b o hb e) f0 f1 f3 f4 f5⟩
 self := fun _ _ _ _ _ st h => wpAny_pyIter_rangeiter st h
section
variable {X : Cx} {tg : Expr}
def wN (K : PySem.W.Frag) (tl : TE) : TI := fun σ H R => tl σ H fun x H1 => ∃ a, x = .ref a /\ (∃ xs, SqL K H1 a xs) /\ R (Itl K a) H1
def xD (K : PySem.W.Frag) (tl : TE) : TI := fun σ H R => tl σ H fun x H1 => ∃ a, x = .ref a /\ (∃ xs, SqT K H1 a xs) /\ R (Itt K a) H1
theorem io {l : Expr} {tl : TE} (hl : PE X l tl) : PI X tg l (wN X.K tl) := by
 intro pins s σ H R I h
 refine thn (hl pins s σ H _ I h) fun v s1 ⟨x, H1, I1, r1, q1⟩ => ?_
 obtain ⟨a, e, ⟨xs, hq⟩, q⟩ := q1
 subst e
 cases r1
 obtain ⟨its, rv, p, hz⟩ := I1.list hq
 refine wpAny_pyIter_list p.isList ?_
 refine ⟨s1.heap.objs.size, [s1.heap.objs.size], _, _, H1, rfl, I1.kept (t' := s1.toks) fun b o e => Heap.get?_push_of_some _ e, qv a _, ⟨_, Heap.get?_push_size _ rfl, rfl, rfl⟩, fun b hb => ?_, q⟩
 have e : b = s1.heap.objs.size := by simpa using hb
 subst e
 exact I1.fpOk (Nat.le_refl _) (I1.hok.fresh (Nat.le_refl _))
theorem bX {l : Expr} {tl : TE} (hl : PE X l tl) : PI X tg l (xD X.K tl) := by
 intro pins s σ H R I h
 refine thn (hl pins s σ H _ I h) fun v s1 ⟨x, H1, I1, r1, q1⟩ => ?_
 obtain ⟨a, e, ⟨xs, hq⟩, q⟩ := q1
 subst e
 cases r1
 obtain ⟨its, rv, p, hz⟩ := I1.tuple hq
 refine wpAny_pyIter_tuple (show s1.heap.IsTuple a its.toArray from p) ?_
 refine ⟨s1.heap.objs.size, [s1.heap.objs.size], _, _, H1, rfl, I1.kept (t' := s1.toks) fun b o e => Heap.get?_push_of_some _ e, oo a _, ⟨_, Heap.get?_push_size _ rfl, rfl, rfl⟩, fun b hb => ?_, q⟩
 have e : b = s1.heap.objs.size := by simpa using hb
 subst e
 exact I1.fpOk (Nat.le_refl _) (I1.hok.fresh (Nat.le_refl _))
theorem sG {pins : List (Addr × Obj)} {σ : St} {H : Hp} {s : Shared} {R : It -> Hp -> Prop} {E : Value -> Shared -> Prop} {lo hi : Int} {t u v : Tok} {tk : Nat} (I : Inv X pins σ H s) (h1 : -(2 ^ 62) <= lo) (h2 : lo < 2 ^ 62) (h3 : -(2 ^ 62) <= hi) (h4 : hi < 2 ^ 62)
  (q : R (Itr lo (hi - lo).toNat) H) : wpAny (model X.prog X.w) X.A (pyIter (.ref s.heap.objs.size)) (PIE X pins σ tg R) E { s with heap := s.heap.push { cls := .type "range", data := .fields #[.int lo t, .int hi u, .int 1 v] }, toks := tk } := by
 refine wpAny_pyIter_range (IsRange.new ..) (small_one h1 h2 h3 h4) ?_
 have I1 : Inv X pins σ H { s with heap := s.heap.push { cls := .type "range", data := .fields #[.int lo t, .int hi u, .int 1 v] }, toks := tk } := I.kept fun b o e => Heap.get?_push_of_some _ e
 refine ⟨(s.heap.push { cls := .type "range", data := .fields #[.int lo t, .int hi u, .int 1 v] }).objs.size, [(s.heap.push { cls := .type "range", data := .fields #[.int lo t, .int hi u, .int 1 v] }).objs.size], _, _, H, rfl,
  I1.kept (t' := tk) fun b o e => Heap.get?_push_of_some _ e, oC _ lo (hi - lo).toNat, ?_, fun b hb => ?_, q⟩
 ·have e1 : lo + ((0 : Nat) : Int) * 1 = lo := by simp
  have e2 : (((hi - lo).toNat : Nat) : Int) - ((0 : Nat) : Int) = Builtin.Range.rangeSize lo hi 1 := by rw [rangeSize_one]; split <;> omega
  show IsRangeIter _ _ (lo + ((0 : Nat) : Int) * 1) ((((hi - lo).toNat : Nat) : Int) - ((0 : Nat) : Int)) 1
  rw [e1, e2]
  exact Heap.get?_push_size _ rfl
 ·have e : b = (s.heap.push { cls := .type "range", data := .fields #[.int lo t, .int hi u, .int 1 v] }).objs.size := by simpa using hb
  subst e
  exact I1.fpOk (Nat.le_refl _) (I1.hok.fresh (Nat.le_refl _))
def wY (ta : TA) : TI := fun σ H R => ta σ H fun vs H1 => ∃ j : Int, vs = [.int j] /\ -(2 ^ 62) <= j /\ j < 2 ^ 62 /\ R (Itr 0 j.toNat) H1
theorem gF {a : Expr} {ta : TA} {p pos : Pos} (hg : Gl X "range") (hm : X.mg "range" = none) (ha : PA X [a] ta) (hs : starEach [a] X.env = [(false, eval a X.env)] := by rfl) : PI X tg (.Call (.Name "range" p) [a] [] pos) (wY ta) := by
 intro pins s σ H R I h
 refine Call_ (cU I hg hm boot_range (PyProof.Rows.callWith_type1 (thn (ha pos pins s σ H _ I h) fun us s1 ⟨vs, H1, I1, r1, q1⟩ => ?_) hs rfl))
 obtain ⟨j, e, q1, q2, q⟩ := q1
 subst e
 cases r1 with
 | cons r rr =>
  cases rr
  obtain ⟨t, rfl⟩ := r
  exact call_range_1 (sG I1 (by omega) (by omega) q1 q2 (by simpa using q))
def xF (wi : TI) (g : TG) (tb : TS) : TS := fun D σ H => wi σ H fun J H1 => ∃ W : Nat -> Nat -> St -> Hp -> Prop, (∃ m, W 0 m σ H1) /\ ∀ i m σ H, W i m σ H ->
 (J.stop i H /\ D.nx σ H) \/ (J.go i H /\ ∃ N : St -> Hp -> Prop, (∀ σ' H', N σ' H' -> ∃ m', m' < m /\ W (i + 1) m' σ' H') /\ ∀ x H', J.yld i H x H' -> g x σ H' fun σ2 H2 => tb { D with nx := N, ct := N, bk := D.nx } σ2 H2)
def iN (fp : List Addr) (h : Heap) : List (Addr × Obj) := fp.filterMap fun b => (h.get? b).map fun o => (b, o)
theorem dP {fp : List Addr} {h : Heap} {b : Addr} {o : Obj} (hb : b ∈ fp) (e : h.get? b = some o) : (b, o) ∈ iN fp h := List.mem_filterMap.mpr ⟨b, hb, by rw [e]; rfl⟩
theorem qL {fp : List Addr} {h : Heap} {p : Addr × Obj} (hp : p ∈ iN fp h) : p.1 ∈ fp /\ h.get? p.1 = some p.2 := by
 obtain ⟨b, hb, e⟩ := List.mem_filterMap.mp hp
 cases q : h.get? b with
 | none => rw [q] at e; cases e
 | some o =>
  rw [q] at e
  have e' : (b, o) = p := Option.some.inj e
  subst e'
  exact ⟨hb, q⟩
theorem Inv.pinned {pins : List (Addr × Obj)} {σ : St} {H : Hp} {s : Shared} {fp : List Addr} (I : Inv X pins σ H s) (hf : ∀ b ∈ fp, iH X pins H b) (ho : ∀ b ∈ fp, ∃ o, s.heap.get? b = some o /\ ∀ v, o.data ≠ .cell v) : Inv X (pins ++ iN fp s.heap) σ H s :=
 I.pins_of fun p hp => (List.mem_append.mp hp).elim (fun z => I.pin p (List.mem_append_right _ z)) fun z => by
  obtain ⟨hb, e⟩ := qL z
  obtain ⟨f0, f1, f2, _⟩ := hf p.1 hb
  obtain ⟨o, e', d⟩ := ho p.1 hb
  rw [e] at e'; cases e'
  exact ⟨e, f0, f1, f2, d⟩
theorem Inv.unpinned {pins pl : List (Addr × Obj)} {σ : St} {H : Hp} {s : Shared} (I : Inv X (pins ++ pl) σ H s) : Inv X pins σ H s := I.pins_of fun p hp => I.pin p (List.mem_append_right _ (List.mem_append_left _ hp))
theorem cv {iter : Expr} {body : List Stmt} {wi : TI} {g : TG} {tb : TS} {pos : Pos} (hp : PassesOwn (model X.prog X.w) X.A X.env X.xe) (hc : X.calm = true) (hi : PI X tg iter wi) (hg : PG X tg g) (hb : PSs X body tb)
  (hs : ∀ x, foldedSetIterable iter X.env x = pure x := by intro _; rfl) : PS X (.For tg iter body [] pos) (xF wi g tb) := by
 intro pins s σ H D I h
 refine wpAny_For (thn (hi pins s σ H _ I h) fun v s1 h1 => thn h1 fun itv s2 h2 => ?_) hs
 obtain ⟨it, fp, tn, J, H2, e, I2, T, st2, f2, W, ⟨m0, w0⟩, turn⟩ := h2
 subst e
 have stat : ∀ {H' : Hp}, (∀ b ∈ fp, H' b = none) -> ∀ b ∈ fp, iH X pins H' b := fun hn b hb => ⟨hn b hb, (f2 b hb).2⟩
 refine codeAny_forLoop_any (fun n s' => ∃ i σ' H', Inv X pins σ' H' s' /\ tn i s'.heap /\ (∀ b ∈ fp, H' b = none) /\ W i n σ' H') ?_ m0 ⟨0, σ, H2, I2, st2, fun b hb => (f2 b hb).1, w0⟩
 rintro n s3 ⟨i, σ3, H3, I3, st3, fr3, w3⟩
 rcases turn i n σ3 H3 w3 with ⟨stop, qn⟩ | ⟨go, N, hN, step⟩
 ·refine wpAny_passesOwn hp (thn (T.done X rfl rfl rfl hc i pins s3 σ3 H3 X.xe I3 (stat fr3) st3 stop) fun r s4 ⟨hr, I4⟩ => ?_)
  subst hr
  exact wpAny_execs_nil ⟨σ3, H3, I4, qn⟩
 ·refine wpAny_passesOwn hp (thn (T.item X rfl rfl rfl hc i pins s3 σ3 H3 X.xe I3 (stat fr3) st3 go) fun r s4 ⟨u, hr, h4⟩ => ?_)
  subst hr
  refine wpAny_passesOwn hp (thn h4 fun _ s5 ⟨x, H5, I5, r5, y5, st5, fr5⟩ => ?_)
  have I5' := I5.pinned (stat fr5) (T.obj _ _ st5)
  refine wpAny_passesOwn hp (thn (hg _ s5 σ3 H5 x u _ I5' r5 (step x H5 y5)) fun _ s6 ⟨σ6, H6, I6, q6⟩ => ?_)
  refine wpAny_passesOwn hp (thn (hb _ s6 σ6 H6 _ I6 q6) fun f s7 q7 => ?_)
  have again : ∀ {σ7 : St} {H7 : Hp}, Inv X (pins ++ iN fp s5.heap) σ7 H7 s7 -> N σ7 H7 -> ∃ m, m < n /\ ∃ i σ' H', Inv X pins σ' H' s7 /\ tn i s7.heap /\ (∀ b ∈ fp, H' b = none) /\ W i m σ' H' := fun {σ7 H7} I7 n7 => by
   obtain ⟨m', hm, w7⟩ := hN σ7 H7 n7
   refine ⟨m', hm, i + 1, σ7, H7, I7.unpinned, T.keep _ _ _ st5 fun b hb o e => (I7.pin (b, o) (List.mem_append_right _ (List.mem_append_right _ (dP hb e)))).1, fun b hb => ?_, w7⟩
   obtain ⟨o, e, d⟩ := T.obj _ _ st5 b hb
   exact (I7.pin (b, o) (List.mem_append_right _ (List.mem_append_right _ (dP hb e)))).2.1
  cases f with
  | next => obtain ⟨σ7, H7, I7, n7⟩ := q7; exact again I7 n7
  | cont => obtain ⟨σ7, H7, I7, n7⟩ := q7; exact again I7 n7
  | brk => obtain ⟨σ7, H7, I7, q7⟩ := q7; exact ⟨σ7, H7, I7.unpinned, q7⟩
  | ret v => obtain ⟨x7, σ7, H7, I7, r7, q7⟩ := q7; exact ⟨x7, σ7, H7, I7.unpinned, r7, q7⟩
end
theorem sy {K : PySem.W.Frag} {a : Addr} {xs : List V} {g : TG} {tb : TS} {D : fq} {σ : St} {H : Hp} (Pv : Nat -> St -> Hp -> Prop) (h0 : Pv 0 σ H) (hl : ∀ i σ H, i <= xs.length -> Pv i σ H -> SqL K H a xs)
  (hs : ∀ i x σ H, xs[i]? = some x -> Pv i σ H -> g x σ H fun σ2 H2 => tb { D with nx := Pv (i + 1), ct := Pv (i + 1), bk := D.nx } σ2 H2) (hd : ∀ σ H, Pv xs.length σ H -> D.nx σ H) :
  ∃ W : Nat -> Nat -> St -> Hp -> Prop, (∃ m, W 0 m σ H) /\ ∀ i m σ H, W i m σ H ->
   ((Itl K a).stop i H /\ D.nx σ H) \/ ((Itl K a).go i H /\ ∃ N : St -> Hp -> Prop, (∀ σ' H', N σ' H' -> ∃ m', m' < m /\ W (i + 1) m' σ' H') /\ ∀ x H', (Itl K a).yld i H x H' -> g x σ H' fun σ2 H2 => tb { D with nx := N, ct := N, bk := D.nx } σ2 H2) := by
 refine ⟨fun i m σ H => m = xs.length - i /\ i <= xs.length /\ Pv i σ H, ⟨xs.length, by simp, Nat.zero_le _, h0⟩, ?_⟩
 rintro i m σ H ⟨rfl, hi, p⟩
 have q := hl i σ H hi p
 by_cases hlt : i < xs.length
 ·refine .inr ⟨⟨xs, xs[i], q, by simp [hlt]⟩, Pv (i + 1), fun σ' H' p' => ⟨xs.length - (i + 1), by omega, rfl, hlt, p'⟩, fun x H' y => ?_⟩
  obtain ⟨e, y⟩ := y
  subst e
  exact hs i x σ _ (y xs q) p
 ·have e : i = xs.length := by omega
  subst e
  exact .inl ⟨⟨xs, q, Nat.le_refl _⟩, hd σ H p⟩
theorem fK {K : PySem.W.Frag} {a : Addr} {xs : List V} {g : TG} {tb : TS} {D : fq} {σ : St} {H : Hp} (Pv : Nat -> St -> Hp -> Prop) (h0 : Pv 0 σ H) (hl : ∀ i σ H, i <= xs.length -> Pv i σ H -> SqT K H a xs)
  (hs : ∀ i x σ H, xs[i]? = some x -> Pv i σ H -> g x σ H fun σ2 H2 => tb { D with nx := Pv (i + 1), ct := Pv (i + 1), bk := D.nx } σ2 H2) (hd : ∀ σ H, Pv xs.length σ H -> D.nx σ H) :
  ∃ W : Nat -> Nat -> St -> Hp -> Prop, (∃ m, W 0 m σ H) /\ ∀ i m σ H, W i m σ H ->
   ((Itt K a).stop i H /\ D.nx σ H) \/ ((Itt K a).go i H /\ ∃ N : St -> Hp -> Prop, (∀ σ' H', N σ' H' -> ∃ m', m' < m /\ W (i + 1) m' σ' H') /\ ∀ x H', (Itt K a).yld i H x H' -> g x σ H' fun σ2 H2 => tb { D with nx := N, ct := N, bk := D.nx } σ2 H2) := by
 refine ⟨fun i m σ H => m = xs.length - i /\ i <= xs.length /\ Pv i σ H, ⟨xs.length, by simp, Nat.zero_le _, h0⟩, ?_⟩
 rintro i m σ H ⟨rfl, hi, p⟩
 have q := hl i σ H hi p
 by_cases hlt : i < xs.length
 ·refine .inr ⟨⟨xs, xs[i], q, by simp [hlt]⟩, Pv (i + 1), fun σ' H' p' => ⟨xs.length - (i + 1), by omega, rfl, hlt, p'⟩, fun x H' y => ?_⟩
  obtain ⟨e, y⟩ := y
  subst e
  exact hs i x σ _ (y xs q) p
 ·have e : i = xs.length := by omega
  subst e
  exact .inl ⟨⟨xs, q, Nat.le_refl _⟩, hd σ H p⟩
theorem gD {lo : Int} {n : Nat} {g : TG} {tb : TS} {D : fq} {σ : St} {H : Hp} (Pv : Nat -> St -> Hp -> Prop) (h0 : Pv 0 σ H)
  (hs : ∀ i σ H, i < n -> Pv i σ H -> g (.int (lo + i)) σ H fun σ2 H2 => tb { D with nx := Pv (i + 1), ct := Pv (i + 1), bk := D.nx } σ2 H2) (hd : ∀ σ H, Pv n σ H -> D.nx σ H) :
  ∃ W : Nat -> Nat -> St -> Hp -> Prop, (∃ m, W 0 m σ H) /\ ∀ i m σ H, W i m σ H ->
   ((Itr lo n).stop i H /\ D.nx σ H) \/ ((Itr lo n).go i H /\ ∃ N : St -> Hp -> Prop, (∀ σ' H', N σ' H' -> ∃ m', m' < m /\ W (i + 1) m' σ' H') /\ ∀ x H', (Itr lo n).yld i H x H' -> g x σ H' fun σ2 H2 => tb { D with nx := N, ct := N, bk := D.nx } σ2 H2) := by
 refine ⟨fun i m σ H => m = n - i /\ i <= n /\ Pv i σ H, ⟨n, by simp, Nat.zero_le _, h0⟩, ?_⟩
 rintro i m σ H ⟨rfl, hi, p⟩
 by_cases hlt : i < n
 ·refine .inr ⟨hlt, Pv (i + 1), fun σ' H' p' => ⟨n - (i + 1), by omega, rfl, hlt, p'⟩, fun x H' y => ?_⟩
  obtain ⟨e, y⟩ := y
  subst e y
  exact hs i σ _ hlt p
 ·have e : i = n := by omega
  subst e
  exact .inl ⟨Nat.le_refl _, hd σ H p⟩
abbrev R2 := V -> V -> Hp -> VK -> Prop
def OpR (X : Cx) (f : Value -> Value -> Sem Value) (r : R2) : Prop :=
 ∀ (pins : List (Addr × Obj)) (s : Shared) (σ : St) (H : Hp) (x y : V) (v u : Value) (Q : VK), Inv X pins σ H s -> aX x v -> aX y u -> r x y H Q ->
  wpAny (model X.prog X.w) X.A (f v u) (EP X pins σ Q) X.xe s
def UnR (X : Cx) (f : Value -> Sem Value) (r : V -> Hp -> VK -> Prop) : Prop :=
 ∀ (pins : List (Addr × Obj)) (s : Shared) (σ : St) (H : Hp) (x : V) (v : Value) (Q : VK), Inv X pins σ H s -> aX x v -> r x H Q ->
  wpAny (model X.prog X.w) X.A (f v) (EP X pins σ Q) X.xe s
def de (X : Cx) (f : Value) (r : List V -> Hp -> VK -> Prop) : Prop :=
 ∀ (pins : List (Addr × Obj)) (s : Shared) (σ : St) (H : Hp) (xs : List V) (us : List Value) (Q : VK), Inv X pins σ H s -> aU xs us -> r xs H Q ->
  wpAny (model X.prog X.w) X.A (call f us) (EP X pins σ Q) X.xe s
def xm (X : Cx) (r : V -> Hp -> (Bool -> Hp -> Prop) -> Prop) : Prop :=
 ∀ (pins : List (Addr × Obj)) (s : Shared) (σ : St) (H : Hp) (x : V) (v : Value) (Q : Bool -> Hp -> Prop), Inv X pins σ H s -> aX x v -> r x H Q ->
  wpAny (model X.prog X.w) X.A (truthy v) (TP X pins σ Q) X.xe s
def tOp (r : R2) (ta tb : TE) : TE := fun σ H Q => ta σ H fun x H1 => tb σ H1 fun y H2 => r x y H2 Q
def tUn (r : V -> Hp -> VK -> Prop) (ta : TE) : TE := fun σ H Q => ta σ H fun x H1 => r x H1 Q
def rI (C : Int -> Int -> Prop) (g : Int -> Int -> V) : R2 := fun x y H Q => ∃ i j, x = .int i /\ y = .int j /\ C i j /\ Q (g i j) H
def rI0 (g : Int -> Int -> V) : R2 := fun x y H Q => ∃ i j, x = .int i /\ y = .int j /\ Q (g i j) H
def rU (g : Int -> V) : V -> Hp -> VK -> Prop := fun x H Q => ∃ i, x = .int i /\ Q (g i) H
section
variable {X : Cx} {a b c : Expr} {ta tb tc : TE} {pos : Pos}
theorem vQ (ha : PE X a ta) (hb : PE X b tb) {pins : List (Addr × Obj)} {s : Shared} {σ : St} {H : Hp} {R : V -> V -> Hp -> Prop} (I : Inv X pins σ H s)
  (h : ta σ H fun x H1 => tb σ H1 fun y H2 => R x y H2) {Q : Value -> Shared -> Prop} {f : Value -> Value -> Sem Value}
  (hf : ∀ v u s2 x y H2, Inv X pins σ H2 s2 -> aX x v -> aX y u -> R x y H2 -> wpAny (model X.prog X.w) X.A (f v u) Q X.xe s2) :
  wpAny (model X.prog X.w) X.A (eval a X.env) (fun v s₁ => wpAny (model X.prog X.w) X.A (eval b X.env) (fun u s₂ => wpAny (model X.prog X.w) X.A (f v u) Q X.xe s₂) X.xe s₁) X.xe s := by
 refine thn (ha pins s σ H _ I h) fun v s1 ⟨x, H1, I1, r1, q1⟩ => ?_
 refine thn (hb pins s1 σ H1 _ I1 q1) fun u s2 ⟨y, H2, I2, r2, q2⟩ => ?_
 exact hf v u s2 x y H2 I2 r1 r2 q2
theorem au {op : Operator} {r : R2} (ho : OpR X (binaryOp op) r) (ha : PE X a ta) (hb : PE X b tb) : PE X (.BinOp a op b pos) (tOp r ta tb) := by
 intro pins s σ H Q I h
 exact wpAny_BinOp (vQ ha hb I h fun v u s2 x y H2 I2 rx ry q => ho pins s2 σ H2 x y v u Q I2 rx ry q)
theorem xf {op : UnaryOp} {r : V -> Hp -> VK -> Prop} (ho : UnR X (unaryOp op) r) (ha : PE X a ta) : PE X (.UnaryOp op a pos) (tUn r ta) := by
 intro pins s σ H Q I h
 exact UnaryOp_ (thn (ha pins s σ H _ I h) fun v s1 ⟨x, H1, I1, r1, q1⟩ => ho pins s1 σ H1 x v Q I1 r1 q1)
theorem opI {f : Value -> Value -> Sem Value} {C : Int -> Int -> Prop} {g : Int -> Int -> Int}
  (rule : ∀ (i j : Int) (t u : Tok) (s : Shared) (Q : Value -> Shared -> Prop) (E : Value -> Shared -> Prop), C i j -> Q (.int (g i j) s.toks) { s with toks := s.toks + 1 } -> wpAny (model X.prog X.w) X.A (f (.int i t) (.int j u)) Q E s) :
  OpR X f (rI C fun i j => .int (g i j)) := by
 intro pins s σ H x y v u Q I rx ry h
 obtain ⟨i, j, rfl, rfl, hc, q⟩ := h
 obtain ⟨t, rfl⟩ := rx
 obtain ⟨t', rfl⟩ := ry
 exact rule i j t t' s _ _ hc ⟨.int (g i j), H, I.tok _, ⟨_, rfl⟩, q⟩
theorem wU {f : Value -> Value -> Sem Value} {g : Int -> Int -> Int}
  (rule : ∀ (i j : Int) (t u : Tok) (s : Shared) (Q : Value -> Shared -> Prop) (E : Value -> Shared -> Prop), Q (.int (g i j) s.toks) { s with toks := s.toks + 1 } -> wpAny (model X.prog X.w) X.A (f (.int i t) (.int j u)) Q E s) :
  OpR X f (rI0 fun i j => .int (g i j)) := by
 intro pins s σ H x y v u Q I rx ry h
 obtain ⟨i, j, rfl, rfl, q⟩ := h
 obtain ⟨t, rfl⟩ := rx
 obtain ⟨t', rfl⟩ := ry
 exact rule i j t t' s _ _ ⟨.int (g i j), H, I.tok _, ⟨_, rfl⟩, q⟩
theorem wK {f : Value -> Value -> Sem Value} {g : Int -> Int -> Bool}
  (rule : ∀ (i j : Int) (t u : Tok) (s : Shared) (Q : Value -> Shared -> Prop) (E : Value -> Shared -> Prop), Q (.bool (g i j)) s -> wpAny (model X.prog X.w) X.A (f (.int i t) (.int j u)) Q E s) :
  OpR X f (rI0 fun i j => .bl (g i j)) := by
 intro pins s σ H x y v u Q I rx ry h
 obtain ⟨i, j, rfl, rfl, q⟩ := h
 obtain ⟨t, rfl⟩ := rx
 obtain ⟨t', rfl⟩ := ry
 exact rule i j t t' s _ _ ⟨.bl (g i j), H, I, rfl, q⟩
def xb (i j : Int) : Prop := 0 < j /\ j < 1073741824
def uY (i j : Int) : Prop := 0 <= j /\ j <= 1000000 /\ i.natAbs < 2 ^ 64
def wB (i j : Int) : Prop := (-(2 ^ 64) < i /\ i < 2 ^ 64) \/ (-(2 ^ 64) < j /\ j < 2 ^ 64)
theorem wB.ok {i j : Int} (h : wB i j) : IntMulOk i j := by
 rcases h with ⟨h1, h2⟩ | ⟨h1, h2⟩
 ·exact .of_left (intBits_le_64 h1 h2)
 ·exact .of_right (intBits_le_64 h1 h2)
theorem bw : OpR X (binaryOp .Add) (rI0 fun i j => .int (i + j)) := wU fun _ _ _ _ _ _ _ q => add_int q
theorem dA : OpR X (binaryOp .Sub) (rI0 fun i j => .int (i - j)) := wU fun _ _ _ _ _ _ _ q => sub_int q
theorem fI : OpR X (binaryOp .Mult) (rI wB fun i j => .int (i * j)) := opI fun _ _ _ _ _ _ _ hc q => mul_int q hc.ok
theorem bv : OpR X (binaryOp .FloorDiv) (rI xb fun i j => .int (i / j)) := opI fun i j _ _ _ _ _ hc q => by
 have h1 : (0 : Int) < j := hc.1
 have h2 : j < 1073741824 := hc.2
 exact floordiv_int (by omega) (by rw [Int.fdiv_eq_ediv_of_nonneg i (by omega)]; exact q) (.inl (PyProof.noPylong_small (by omega)))
theorem bh : OpR X (binaryOp .Mod) (rI (fun _ j => 0 < j) fun i j => .int (i % j)) := opI fun i j _ _ _ _ _ hc q => by
 have h1 : (0 : Int) < j := hc
 exact mod_int' (by omega) (by rw [Int.fmod_eq_emod_of_nonneg i (by omega)]; exact q)
theorem lY : OpR X (binaryOp .Pow) (rI uY fun i j => .int (i ^ j.toNat)) := opI fun _ _ _ _ _ _ _ hc q => pow_int_small hc.1 hc.2.1 hc.2.2 q
theorem unI {f : Value -> Sem Value} {g : Int -> Int}
  (rule : ∀ (i : Int) (t : Tok) (s : Shared) (Q : Value -> Shared -> Prop) (E : Value -> Shared -> Prop), Q (.int (g i) s.toks) { s with toks := s.toks + 1 } -> wpAny (model X.prog X.w) X.A (f (.int i t)) Q E s) :
  UnR X f (rU fun i => .int (g i)) := by
 intro pins s σ H x v Q I rx h
 obtain ⟨i, rfl, q⟩ := h
 obtain ⟨t, rfl⟩ := rx
 exact rule i t s _ _ ⟨.int (g i), H, I.tok _, ⟨_, rfl⟩, q⟩
theorem wp : UnR X (unaryOp .USub) (rU fun i => .int (-i)) := unI fun _ _ _ _ _ q => neg_int q
end
def wX : V -> V -> Bool
 | .non, .non => true | .non, .int _ => true | .int _, .non => true | .non, .bl _ => true | .bl _, .non => true | .non, .str _ => true | .str _, .non => true
 | .int _, .int _ => true | .bl _, .bl _ => true | .str _, .str _ => true | .byt _, .byt _ => true
 | .int _, .str _ => true | .str _, .int _ => true | .bl _, .str _ => true | .str _, .bl _ => true
 | _, _ => false
def rEq : R2 := fun x y H Q => wX x y = true /\ Q (.bl (decide (x = y))) H
def rNe : R2 := fun x y H Q => wX x y = true /\ Q (.bl (!decide (x = y))) H
theorem oY {i j : Int} : decide (V.int i = V.int j) = (i == j) := by
 rw [Bool.eq_iff_iff]
 simp
theorem rA {i j : Bool} : decide (V.bl i = V.bl j) = (i == j) := by
 rw [Bool.eq_iff_iff]
 simp
theorem oS {i j : Str} : decide (V.str i = V.str j) = (i == j) := by
 rw [Bool.eq_iff_iff]
 simp
theorem ph {i j : Array UInt8} : decide (V.byt i = V.byt j) = (i.toList == j.toList) := by
 rw [Bool.eq_iff_iff]
 cases i
 cases j
 simp
section
variable {X : Cx} {a b c : Expr} {ta tb tc : TE} {pos : Pos}
theorem bc {pins : List (Addr × Obj)} {σ : St} {H : Hp} {s : Shared} {Q : VK} {k k' : Bool} (I : Inv X pins σ H s) (q : Q (.bl k) H) (e : k = k') : EP X pins σ Q (.bool k') s := by
 subst e
 exact ⟨.bl k, H, I, rfl, q⟩
theorem bH : OpR X (compareOp .Eq) rEq := by
 intro pins s σ H x y v u Q I rx ry h
 obtain ⟨hs, q⟩ := h
 cases x with
 | non =>
  cases rx
  cases y with
  | non => cases ry; exact PySem.EqNone.eq_none_none (bc I q (by simp))
  | bl j => cases ry; exact PySem.EqNone.eq_none_bool (bc I q (by simp))
  | int j => obtain ⟨t', rfl⟩ := ry; exact PySem.EqNone.eq_none_int (bc I q (by simp))
  | str j => obtain ⟨t', rfl⟩ := ry; exact PySem.EqNone.eq_none_str (bc I q (by simp))
  | _ => exact absurd (show false = true from hs) Bool.false_ne_true
 | bl i =>
  cases rx
  cases y with
  | non => cases ry; exact PySem.EqNone.eq_bool_none (bc I q (by simp))
  | bl j => cases ry; exact eq_bool (bc I q rA)
  | str j => obtain ⟨t', rfl⟩ := ry; exact PySem.EqMixed.eq_bool_str (bc I q (by simp))
  | _ => exact absurd (show false = true from hs) Bool.false_ne_true
 | int i =>
  obtain ⟨t, rfl⟩ := rx
  cases y with
  | non => cases ry; exact PySem.EqNone.eq_int_none (bc I q (by simp))
  | int j => obtain ⟨t', rfl⟩ := ry; exact eq_int (bc I q oY)
  | str j => obtain ⟨t', rfl⟩ := ry; exact PySem.EqMixed.eq_int_str (bc I q (by simp))
  | _ => exact absurd (show false = true from hs) Bool.false_ne_true
 | str i =>
  obtain ⟨t, rfl⟩ := rx
  cases y with
  | non => cases ry; exact PySem.EqNone.eq_str_none (bc I q (by simp))
  | bl j => cases ry; exact PySem.EqMixed.eq_str_bool (bc I q (by simp))
  | int j => obtain ⟨t', rfl⟩ := ry; exact PySem.EqMixed.eq_str_int (bc I q (by simp))
  | str j => obtain ⟨t', rfl⟩ := ry; exact eq_str (bc I q oS)
  | _ => exact absurd (show false = true from hs) Bool.false_ne_true
 | byt i =>
  obtain ⟨t, rfl⟩ := rx
  cases y with
  | byt j => obtain ⟨t', rfl⟩ := ry; exact PySem.W.eq_bytes (bc I q ph)
  | _ => exact absurd (show false = true from hs) Bool.false_ne_true
 | _ => cases y <;> exact absurd (show false = true from hs) Bool.false_ne_true
theorem vi : OpR X (compareOp .NotEq) rNe := by
 intro pins s σ H x y v u Q I rx ry h
 obtain ⟨hs, q⟩ := h
 cases x with
 | non =>
  cases rx
  cases y with
  | non => cases ry; exact PySem.EqNone.ne_none_none (bc I q (by simp))
  | bl j => cases ry; exact PySem.EqNone.ne_none_bool (bc I q (by simp))
  | int j => obtain ⟨t', rfl⟩ := ry; exact PySem.EqNone.ne_none_int (bc I q (by simp))
  | str j => obtain ⟨t', rfl⟩ := ry; exact PySem.EqNone.ne_none_str (bc I q (by simp))
  | _ => exact absurd (show false = true from hs) Bool.false_ne_true
 | bl i =>
  cases rx
  cases y with
  | non => cases ry; exact PySem.EqNone.ne_bool_none (bc I q (by simp))
  | bl j => cases ry; exact ne_bool (bc I q (congrArg not rA))
  | str j => obtain ⟨t', rfl⟩ := ry; exact PySem.EqMixed.ne_bool_str (bc I q (by simp))
  | _ => exact absurd (show false = true from hs) Bool.false_ne_true
 | int i =>
  obtain ⟨t, rfl⟩ := rx
  cases y with
  | non => cases ry; exact PySem.EqNone.ne_int_none (bc I q (by simp))
  | int j => obtain ⟨t', rfl⟩ := ry; exact ne_int (bc I q (congrArg not oY))
  | str j => obtain ⟨t', rfl⟩ := ry; exact PySem.EqMixed.ne_int_str (bc I q (by simp))
  | _ => exact absurd (show false = true from hs) Bool.false_ne_true
 | str i =>
  obtain ⟨t, rfl⟩ := rx
  cases y with
  | non => cases ry; exact PySem.EqNone.ne_str_none (bc I q (by simp))
  | bl j => cases ry; exact PySem.EqMixed.ne_str_bool (bc I q (by simp))
  | int j => obtain ⟨t', rfl⟩ := ry; exact PySem.EqMixed.ne_str_int (bc I q (by simp))
  | str j => obtain ⟨t', rfl⟩ := ry; exact ne_str (bc I q (congrArg not oS))
  | _ => exact absurd (show false = true from hs) Bool.false_ne_true
 | byt i =>
  obtain ⟨t, rfl⟩ := rx
  cases y with
  | byt j => obtain ⟨t', rfl⟩ := ry; exact PySem.W.ne_bytes (bc I q (congrArg not ph))
  | _ => exact absurd (show false = true from hs) Bool.false_ne_true
 | _ => cases y <;> exact absurd (show false = true from hs) Bool.false_ne_true
theorem vz : OpR X (compareOp .Lt) (rI0 fun i j => .bl (decide (i < j))) := wK fun _ _ _ _ _ _ _ q => lt_int q
theorem eF : OpR X (compareOp .Gt) (rI0 fun i j => .bl (decide (j < i))) := wK fun _ _ _ _ _ _ _ q => gt_int q
theorem vZ : OpR X (compareOp .Is) (fun x y H Q => y = .non /\ Q (.bl (decide (x = .non))) H) := by
 intro pins s σ H x y v u Q I rx ry h
 obtain ⟨rfl, q⟩ := h
 cases ry
 refine is_none_gen (bc I q ?_)
 cases x <;> first
  | (cases rx; rfl)
  | (obtain ⟨t, rfl⟩ := rx; rfl)
theorem eX : OpR X (compareOp .IsNot) (fun x y H Q => y = .non /\ Q (.bl (!decide (x = .non))) H) := by
 intro pins s σ H x y v u Q I rx ry h
 obtain ⟨rfl, q⟩ := h
 cases ry
 refine isnot_none_gen (bc I q ?_)
 cases x <;> first
  | (cases rx; rfl)
  | (obtain ⟨t, rfl⟩ := rx; rfl)
theorem aO (b : Expr) {op : CmpOp} (h : op ≠ .In := by decide) (h2 : op ≠ .NotIn := by decide) : behindInMarks op b = false := by
 have e1 : (op == CmpOp.In) = false := by cases op <;> first | rfl | exact absurd rfl h
 have e2 : (op == CmpOp.NotIn) = false := by cases op <;> first | rfl | exact absurd rfl h2
 cases b <;> simp [behindInMarks, e1, e2]
theorem kr {op : CmpOp} {r : R2} (ho : OpR X (compareOp op) r) (ha : PE X a ta) (hb : PE X b tb) (hm : behindInMarks op b = false) : PE X (.Compare a [op] [b] pos) (tOp r ta tb) := by
 intro pins s σ H Q I h
 exact wpAny_Compare1 (vQ ha hb I h fun v u s2 x y H2 I2 rx ry q => ho pins s2 σ H2 x y v u Q I2 rx ry q) hm
def xh (t : TE) : TT := fun σ H Q => t σ H fun x H' => ∃ k, x = .bl k /\ Q k H'
theorem aB {op : CmpOp} {r : R2} (ho : OpR X (compareOp op) r) (ha : PE X a ta) (hb : PE X b tb) (hm : behindInMarks op b = false) : PT X (.Compare a [op] [b] pos) (xh (tOp r ta tb)) := by
 intro pins s σ H Q I h
 refine wpAny_isTrue_Compare1 (thn (ha pins s σ H _ I h) fun v s1 ⟨x, H1, I1, r1, q1⟩ => thn (hb pins s1 σ H1 _ I1 q1) fun u s2 ⟨y, H2, I2, r2, q2⟩ =>
  thn (ho pins s2 σ H2 x y v u _ I2 r1 r2 q2) fun c s3 ⟨z, H3, I3, r3, k, e, q3⟩ => ?_) hm
 subst e
 cases r3
 exact wpAny_truthy_bool ⟨H3, I3, q3⟩
def uQ (K : PySem.W.Frag) (x : V) (H : Hp) (k : Bool) : Prop :=
 match x with
 | .non => k = false
 | .bl b => k = b
 | .int i => k = (i != 0)
 | .str y => y.length <= sizeLine /\ k = ((y.length : Int) != 0)
 | .byt y => y.size <= sizeLine /\ k = ((y.size : Int) != 0)
 | .ref p => (∃ xs, SqL K H p xs /\ k = !xs.isEmpty) \/ (∃ xs, SqT K H p xs /\ k = !xs.isEmpty) \/ ∃ kvs, H p = some (.dK kvs) /\ k = !kvs.isEmpty
 | _ => False
theorem oM {κ : Type} {kvs : List (κ × V)} {vs : List (κ × Value)} (r : KV kvs vs) : (!vs.isEmpty) = !kvs.isEmpty := by
 cases r <;> rfl
theorem iO {xs : List V} {its : List Value} (r : aU xs its) : (!its.toArray.isEmpty) = !xs.isEmpty := by
 cases r <;> simp
theorem gy : (sizeLine : Nat) < 2 ^ 63 := by rw [sizeLine_eq]; decide
theorem vC : xm X (fun x H Q => ∃ k, uQ X.K x H k /\ Q k H) := by
 intro pins s σ H x v Q I rx h
 obtain ⟨k, e, q⟩ := h
 have hl := gy
 have hs : sizeLine = 16777216 := sizeLine_eq
 cases x with
 | non =>
  cases rx
  have e' : k = false := e
  subst e'
  exact truthy_none ⟨H, I, q⟩
 | bl b =>
  cases rx
  have e' : k = b := e
  subst e'
  exact wpAny_truthy_bool ⟨H, I, q⟩
 | int i =>
  obtain ⟨t, rfl⟩ := rx
  have e' : k = (i != 0) := e
  subst e'
  exact PySem.P.truthy_int ⟨H, I, q⟩
 | str y =>
  obtain ⟨t, rfl⟩ := rx
  obtain ⟨hy, e'⟩ : y.length <= sizeLine /\ k = ((y.length : Int) != 0) := e
  subst e'
  exact PySem.P.truthy_str (by omega) ⟨H, I.tok _, q⟩
 | byt y =>
  obtain ⟨t, rfl⟩ := rx
  obtain ⟨hy, e'⟩ : y.size <= sizeLine /\ k = ((y.size : Int) != 0) := e
  subst e'
  exact PySem.W.truthy_bytes (by omega) ⟨H, I.tok _, q⟩
 | ref p =>
  cases rx
  have e' : (∃ xs, SqL X.K H p xs /\ k = !xs.isEmpty) \/ (∃ xs, SqT X.K H p xs /\ k = !xs.isEmpty) \/ ∃ kvs, H p = some (.dK kvs) /\ k = !kvs.isEmpty := e
  rcases e' with ⟨xs, hx, e'⟩ | ⟨xs, hx, e'⟩ | ⟨kvs, hx, e'⟩
  ·subst e'
   obtain ⟨its, r, pl, hz⟩ := I.list hx
   have hlen := r.length
   exact wpAny_truthy_list pl.isList (by simp only [List.size_toArray]; omega) ⟨H, I.tok _, by rw [iO r]; exact q⟩
  ·subst e'
   obtain ⟨its, r, pl, hz⟩ := I.tuple hx
   have hlen := r.length
   exact truthy_tuple pl (by simp only [List.size_toArray]; omega) ⟨H, I.tok _, by rw [iO r]; exact q⟩
  ·subst e'
   obtain ⟨hz, hS, vs, r, m⟩ : kvs.length <= sizeLine /\ (p == sysModules) = false /\ ∃ vs, KV kvs vs /\ s.heap.DictOf (be X.prog X.w) p vs := I.hok p _ hx
   have hlen : kvs.length = vs.length := Paired.length r
   exact wpAny_truthy_dict hS m (by omega) ⟨H, I.tok _, by rw [oM r]; exact q⟩
 | _ => exact (show False from e).elim
theorem sS (ha : PE X a ta) (he : ∀ whole, isTrue a X.env whole = (do let v <- whole; standAt a.pos; holding [v] (truthy v))) :
  PT X a (fun σ H Q => ta σ H fun x H' => ∃ k, uQ X.K x H' k /\ Q k H') := by
 intro pins s σ H Q I h
 exact isTrue_plain (thn (ha pins s σ H _ I h) fun v s1 ⟨x, H1, I1, r1, q1⟩ => vC pins s1 σ H1 x v Q I1 r1 q1) (he _)
theorem nX : OpR X (binaryOp .Add) (fun x y H Q => ∃ i j, x = .str i /\ y = .str j /\ i.length + j.length <= sizeLine /\ Q (.str (i ++ j)) H) := by
 intro pins s σ H x y v u Q I rx ry h
 obtain ⟨i, j, rfl, rfl, hz, q⟩ := h
 obtain ⟨t, rfl⟩ := rx
 obtain ⟨t', rfl⟩ := ry
 exact add_str (fun t' tk => ⟨.str (i ++ j), H, I.tok _, ⟨_, rfl⟩, q⟩) hz
theorem fz {x : V} {us : List Value} (r : aU [x] us) : ∃ u, us = [u] /\ aX x u := by
 cases r with
 | cons r1 r2 => cases r2; exact ⟨_, rfl, r1⟩
theorem pC {x y : V} {us : List Value} (r : aU [x, y] us) : ∃ u w', us = [u, w'] /\ aX x u /\ aX y w' := by
 cases r with
 | cons r1 r2 =>
  cases r2 with
  | cons r3 r4 => cases r4; exact ⟨_, _, rfl, r1, r3⟩
theorem jS (hc : X.calm = true) : de X (.builtin "max") (fun xs H Q => ∃ i j, xs = [.int i, .int j] /\ Q (.int (if j > i then j else i)) H) := by
 intro pins s σ H xs us Q I r h
 obtain ⟨i, j, rfl, q⟩ := h
 obtain ⟨u, w', rfl, ⟨t, rfl⟩, ⟨t', rfl⟩⟩ := pC r
 refine max_two_ints (I.ok.hd hc) fun h' tk k => ⟨_, H, I.kept k, ?_, q⟩
 by_cases hj : j > i
 ·rw [if_pos hj, if_pos hj]; exact ⟨_, rfl⟩
 ·rw [if_neg hj, if_neg hj]; exact ⟨_, rfl⟩
end
structure wE (h : Heap) (x dx C : Addr) (mA : Str -> Option Value) : Prop where
 obj : h.get? x = some (PySem.W.instObj C dx)
 ns : h.Ns1 dx mA
 ne : dx ≠ x
theorem qP {h : Heap} {dx : Addr} {mA : Str -> Option Value} (n : h.Ns1 dx mA) : ∃ od, h.get? dx = some od /\ ∀ name, PySem.W.lookIn name od = some (mA name) := by
 obtain ⟨o, es, ep, ho, hd, hk, _, hm⟩ := n
 refine ⟨o, ho, fun name => ?_⟩
 have e := hm name
 unfold nsFind findBy at e
 rw [<- Array.find?_toList] at e
 unfold PySem.W.lookIn
 rw [hd]
 dsimp only
 split
 ·rename_i y q
  rw [q] at e
  exact congrArg some e
 ·rename_i q
  rw [q] at e
  have a : es.toList.any (·.refKey) = false := by
   rw [List.any_eq_false]
   intro y hy
   obtain ⟨z, t, hkey⟩ := hk y (Array.mem_toList_iff.mp hy)
   simp [DictEntry.refKey, hkey]
  have a' : ¬ es.toList.any (·.refKey) = true := by rw [a]; exact Bool.false_ne_true
  rw [if_neg a']
  exact congrArg some e
theorem wE.look {h : Heap} {x dx C : Addr} {mA : Str -> Option Value} (I : wE h x dx C mA) : ∃ od, PySem.W.InstAt h x (PySem.W.instObj C dx) C (some od) /\ ∀ name, PySem.W.lookIn name od = some (mA name) :=
 let ⟨od, ho, hl⟩ := qP I.ns
 ⟨od, ⟨I.obj, rfl, rfl, ho⟩, hl⟩
section
variable {prog : Program} {w : World} {A : Around} {E : Value -> Shared -> Prop} {s : Shared} {K : PySem.W.Frag} {x dx C f : Addr} {mA : Str -> Option Value} {name : Str} {v : Value}
end
theorem gp.some_of {v : V} {o : Option Value} (r : gp (some v) o) : ∃ u, o = some u /\ aX v u := by
 cases o with
 | none => exact (show False from r).elim
 | some u => exact ⟨u, rfl, r⟩
section
variable {P : Program} {w : World} {H H' : Hp} {h h' : Heap} {a C dx : Addr} {fs fs' : List (Str × V)}
theorem ux (hok : HOk P w H h) (e : H a = some (.ins C dx fs)) : ∃ mA, wE h a dx C mA /\ (∀ f, gp (fs.lookup f) (mA f)) /\ PySem.Within mA (fs.map (·.1)) /\ fs.length <= 1000 /\ H dx = some (.own a) := by
 obtain ⟨d, z, ne, ob, mA, n, r, q⟩ := (show bg P w H h a (.ins C dx fs) from hok a _ e)
 exact ⟨mA, ⟨ob, n, ne⟩, r, q, z, d⟩
end
structure Cls (K : PySem.W.Frag) (C : Addr) : Prop where
 pg : PySem.W.plainGet K C Str.empty = true
 hd : PySem.W.hasDictIn K C = true
 po : PySem.W.plainOver K C = true
 sa : PySem.W.findIn K (.ref C) "__setattr__" = some (some (.builtin "object.__setattr__"))
theorem Cls.get {K : PySem.W.Frag} {C : Addr} (c : Cls K C) (f : Str) : PySem.W.plainGet K C f = true := c.pg
section
variable {X : Cx} {pins : List (Addr × Obj)} {σ : St} {H : Hp} {s : Shared} {a C dx : Addr} {fs : List (Str × V)} {f : Str} {v : V} {A : Around} {E : Value -> Shared -> Prop}
end
section
variable {X : Cx} {o e value : Expr} {f : Str} {pos pos' tpos : Pos} {ta tv : TE}
end
section
variable {X : Cx} {pins : List (Addr × Obj)} {σ : St} {H : Hp} {s : Shared} {A : Around} {E : Value -> Shared -> Prop} {Q : Value -> Shared -> Prop} {c : Value} {b : Bool}
inductive fR (K : PySem.W.Frag) (H : Hp) : V -> Value -> Prop where
 | non : fR K H .non (.type "NoneType")
 | bl (x : Bool) : fR K H (.bl x) (.type "bool")
 | int (i : Int) : fR K H (.int i) (.type "int")
 | str (x : Str) : fR K H (.str x) (.type "str")
 | flt (x : UInt64) : fR K H (.flt x) (.type "float")
 | lst {a : Addr} {xs : List V} (e : H a = some (.lst xs)) : fR K H (.ref a) (.type "list")
 | frz {a : Addr} {o : Obj} {xs : List V} (e : H a = some (.frz o (.lst xs))) : fR K H (.ref a) (.type "list")
 | tup {a : Addr} {xs : List V} (e : H a = some (.tup xs)) : fR K H (.ref a) (.type "tuple")
 | dK {a : Addr} {kvs : List (Key × V)} (e : H a = some (.dK kvs)) : fR K H (.ref a) (.type "dict")
 | dT {a : Addr} {kvs : List (List Key × V)} (e : H a = some (.dT kvs)) : fR K H (.ref a) (.type "dict")
 | ins {a C dx : Addr} {fs : List (Str × V)} (e : H a = some (.ins C dx fs)) (cl : Cls K C) (ha : PySem.W.findIn K (.ref C) "__class__" = some (some (.builtin "object.__class__")))
   (hn : PySem.W.specialIn K (.builtin "object.__class__") "__get__" = some (some (.builtin "getset_descriptor.__get__"))) (htk : PySem.W.takesIn K (.builtin "object.__class__") = some true)
   (hm : PySem.W.mroIn K C (.type "object") = some true) : fR K H (.ref a) (.ref C)
theorem qA {x : V} {u t : Value} (I : Inv X pins σ H s) (rx : aX x u) (ty : fR X.K H x t) (e : PySem.W.kitOne X.K t c = some b) (h : ∀ tk, Q (.bool b) { s with toks := tk }) :
  wpAny (model X.prog X.w) A (call (.builtin "isinstance") [u, c]) Q E s := by
 cases ty with
 | non => cases (show u = Value.none from rx); exact PySem.W.kia_one PySem.W.kitx_none I.kIn True.intro e (fun z => nomatch z) h
 | bl y => cases (show u = Value.bool y from rx); exact PySem.W.kia_one PySem.W.kitx_bool I.kIn True.intro e (fun z => nomatch z) h
 | int i => obtain ⟨t, q⟩ := (show ∃ t, u = Value.int i t from rx); cases q; exact PySem.W.kia_one PySem.W.kitx_int I.kIn True.intro e (fun z => nomatch z) h
 | str y => obtain ⟨t, q⟩ := (show ∃ t, u = Value.str y t from rx); cases q; exact PySem.W.kia_one PySem.W.kitx_str I.kIn True.intro e (fun z => nomatch z) h
 | flt y => obtain ⟨t, q⟩ := (show ∃ t, u = Value.float y t from rx); cases q; exact PySem.W.kia_one PySem.W.kitx_float I.kIn True.intro e (fun z => nomatch z) h
 | @lst a xs ea =>
  cases (show u = Value.ref a from rx)
  obtain ⟨_, _, n, _, h1⟩ := (show bg X.prog X.w H s.heap a (.lst xs) from I.hok a _ ea)
  exact PySem.W.kia_one PySem.W.kitx_list I.kIn ⟨_, h1, rfl⟩ e (fun z => nomatch z) h
 | @frz a ob xs ea =>
  cases (show u = Value.ref a from rx)
  obtain ⟨_, _, _, n, _, h1⟩ := (show bg X.prog X.w H s.heap a (.frz ob (.lst xs)) from I.hok a _ ea)
  exact PySem.W.kia_one PySem.W.kitx_list I.kIn ⟨_, h1, rfl⟩ e (fun z => nomatch z) h
 | @tup a xs ea =>
  cases (show u = Value.ref a from rx)
  obtain ⟨_, _, _, p⟩ := (show bg X.prog X.w H s.heap a (.tup xs) from I.hok a _ ea)
  obtain ⟨⟨o, h1, h2, _⟩, _⟩ := p
  exact PySem.W.kia_one PySem.W.kitx_tuple I.kIn ⟨o, h1, h2⟩ e (fun z => nomatch z) h
 | @dK a kvs ea =>
  cases (show u = Value.ref a from rx)
  obtain ⟨_, _, vs, _, p⟩ := (show bg X.prog X.w H s.heap a (.dK kvs) from I.hok a _ ea)
  obtain ⟨o, es, ep, h1, h2, _⟩ := p
  exact PySem.W.kia_one PySem.W.kitx_dict I.kIn ⟨o, h1, h2.1⟩ e (fun z => nomatch z) h
 | @dT a kvs ea =>
  cases (show u = Value.ref a from rx)
  obtain ⟨_, _, xs, _, o, es, ep, h1, h2, _⟩ := (show bg X.prog X.w H s.heap a (.dT kvs) from I.hok a _ ea)
  exact PySem.W.kia_one PySem.W.kitx_dict I.kIn ⟨o, h1, h2.1⟩ e (fun z => nomatch z) h
 | @ins a C dx fs ea cl ha hn htk hm =>
  cases (show u = Value.ref a from rx)
  obtain ⟨mA, O, _⟩ := ux I.hok ea
  obtain ⟨od, J, _⟩ := O.look
  exact PySem.W.kia_one (PySem.W.kitx_own (cl.get _) cl.hd ha hn htk hm) I.kIn J e (fun z => nomatch z) h
end
structure cR (k : Nat) (A : Around) : Prop where
 hd : A.handled = none
 dp : A.depth + 3 * k + 5 < recursionLimit
 un : A.units + 16 * k + 200 < cLine
theorem cR.mono {j k : Nat} {A : Around} (r : cR k A) (h : j <= k) : cR j A := ⟨r.hd, by have := r.dp; omega, by have := r.un; omega⟩
theorem cR.deeper {k : Nat} {A : Around} (r : cR (k + 1) A) (env : Env) : cR k (A.deeper env) :=
 ⟨r.hd, by have := r.dp; show A.depth + 1 + 3 * k + 5 < _; omega, by have := r.un; show A.units + 3 + 16 * k + 200 < _; omega⟩
theorem cR.depth {k : Nat} {A : Around} (r : cR k A) : A.depth < recursionLimit := by have := r.dp; omega
theorem cR.units {k : Nat} {A : Around} (r : cR k A) : A.units + 64 < cLine := by have := r.un; omega
def dz : TA := fun _ H Q => Q [] H
def bj (ta : TE) (tr : TA) : TA := fun σ H Q => ta σ H fun x H1 => tr σ H1 fun xs H2 => Q (x :: xs) H2
section
variable {X : Cx} {e : Expr} {es : List Expr} {te : TE} {t : TA} {pos : Pos}
theorem ae : PA X [] dz := fun _ _ _ _ H Q I h => Calls.spliced_nil ⟨[], H, I, .nil, h⟩
theorem aa (ha : PE X e te) (hr : PA X es t) (hs : starEach (e :: es) X.env = (false, eval e X.env) :: starEach es X.env := by rfl) : PA X (e :: es) (bj te t) := by
 intro pos pins s σ H Q I h
 rw [hs]
 show wpAny _ _ (spliced ((false, eval e X.env) :: backTo pos (starEach es X.env))) _ _ s
 refine Calls.spliced_cons (thn (ha pins s σ H _ I h) fun u s1 ⟨x, H1, I1, r1, q1⟩ => ?_)
 exact thn (hr pos pins s1 σ H1 _ I1 q1) fun us s2 ⟨xs, H2, I2, r2, q2⟩ => ⟨x :: xs, H2, I2, .cons r1 r2, q2⟩
def eP (t : TA) : TE := fun σ H Q => t σ H fun xs H1 => xs.length <= sizeLine /\ ∀ p, H1 p = none -> Q (.ref p) (upd H1 p (.tup xs))
def wv (t : TA) : TE := fun σ H Q => t σ H fun xs H1 => xs.length <= sizeLine /\ ∀ p, H1 p = none -> Q (.ref p) (upd H1 p (.lst xs))
theorem av {x1} (h : PA X es t) : PE X (.Tuple es x1 pos) (eP t) := by
 intro pins s σ H Q I hq
 refine wpAny_Tuple_spliced (thn (h pos pins s σ H _ I hq) fun us s1 ⟨xs, H1, I1, r, z, q⟩ => ⟨by rw [<- r.length]; exact z, ?_⟩)
 have hf : H1 s1.heap.objs.size = none := I1.hok.fresh (Nat.le_refl _)
 refine ⟨.ref s1.heap.objs.size, upd H1 s1.heap.objs.size (.tup xs), I1.laid (t' := s1.toks) (fun b u e => Heap.get?_push_of_some _ e) (Nat.le_refl _) ?_, rfl, q _ hf⟩
 exact ⟨z, us, r, ⟨_, Heap.get?_push_size _ rfl, rfl, _, rfl⟩, NoD.new _ rfl⟩
theorem bC (h : PA X es t) : PE X (.List es pos) (wv t) := by
 intro pins s σ H Q I hq
 refine wpAny_List_spliced (thn (h pos pins s σ H _ I hq) fun us s1 ⟨xs, H1, I1, r, z, q⟩ => ⟨by rw [<- r.length]; exact z, ?_⟩)
 have hf : H1 s1.heap.objs.size = none := I1.hok.fresh (Nat.le_refl _)
 refine ⟨.ref s1.heap.objs.size, upd H1 s1.heap.objs.size (.lst xs), I1.laid (t' := s1.toks) (fun b u e => Heap.get?_push_of_some _ e) (Nat.le_refl _) ?_, rfl, q _ hf⟩
 exact ⟨z, us, 0, r, Heap.get?_push_size _ rfl⟩
end
abbrev Sp := List V -> Hp -> VK -> XK -> Prop
abbrev CXT := List Env -> Hp -> Shared -> XK -> Value -> Shared -> Prop
structure ve (P : Program) (w : World) (K : PySem.W.Frag) (mg : Str -> Option Value) (base : Heap) (A : Around) (outer : List Env) (s : Shared) (H : Hp) : Prop where
 frames : A.frames = some outer
 mod : Mod K mg base
 bs : ∀ b o, base.get? b = some o -> s.heap.get? b = some o /\ H b = none
 bsz : base.objs.size <= s.heap.objs.size
 funs : s.heap.FunFrames base outer
 frf : ∀ b ∈ frs outer, H b = none
 hok : HOk P w H s.heap
 bare : AllBare s.gens
def CE (outer : List Env) (P : Program) (w : World) (H : Hp) (s : Shared) (Q : VK) (u : Value) (s' : Shared) : Prop :=
 ∃ v H', s'.os = s.os /\ AllBare s'.gens /\ Un (frs outer) [] H H' s.heap s'.heap /\ HOk P w H' s'.heap /\ aX v u /\ Q v H'
def CR (CX : CXT) (outer : List Env) (P : Program) (w : World) (H : Hp) (s : Shared) (Q : VK) (E : XK) (r : Result) (s' : Shared) : Prop :=
 match r with
 | .ok (.ret u) => CE outer P w H s Q u s'
 | .ok _ => False
 | .error e => CX outer H s E e s'
structure br (P : Program) (w : World) (K : PySem.W.Frag) (mg : Str -> Option Value) (base : Heap) (CX : CXT) (k : Nat) (f : Addr) (fd : FuncData) (ps : List Str) (sp : Sp) : Prop where
 len : ∀ vs H Q E, sp vs H Q E -> vs.length = ps.length
 run : ∀ (A : Around) (outer : List Env) (s : Shared) (H : Hp) (args : Args) (us : List Value) (vs : List V) (Q : VK) (E : XK), cR k A -> ve P w K mg base A outer s H -> BindsTo s fd args (ps.zip us) -> aU vs us -> sp vs H Q E ->
  codeAny (model P w) A (.call (.ref f) args) (CR CX outer P w H s Q E) s
theorem br.mono {P : Program} {w : World} {K : PySem.W.Frag} {mg : Str -> Option Value} {base : Heap} {CX : CXT} {j k : Nat} {f : Addr} {fd : FuncData} {ps : List Str} {sp : Sp} (F : br P w K mg base CX j f fd ps sp) (h : j <= k) :
  br P w K mg base CX k f fd ps sp := ⟨F.len, fun A outer s H args us vs Q E hr => F.run A outer s H args us vs Q E (hr.mono h)⟩
section
variable {X : Cx} {pins : List (Addr × Obj)} {σ : St} {H : Hp} {s s' : Shared}
theorem Inv.env0 (I : Inv X pins σ H s) : ve X.prog X.w X.K X.mg X.base X.A X.stack s H :=
 ⟨I.ok.frames, I.ok.mod, I.bs, Nat.le_trans I.ok.bsz I.sz, I.stack, I.stkFree, I.hok, I.bare⟩
theorem Inv.after {Q : VK} {u : Value} (I : Inv X pins σ H s) (h : CE X.stack X.prog X.w H s Q u s') : EP X pins σ Q u s' := by
 obtain ⟨v, H', os, bare, un, hok, r, q⟩ := h
 obtain ⟨hh, g, d, t, os'⟩ := s'
 obtain rfl : os' = s.os := os
 exact ⟨v, H', I.call (h' := hh) (g' := g) (d' := d) (t' := t) (ch := []) un hok bare (fun b z => absurd z (by simp)), r, q⟩
end
def sM (sp : Sp) (dvs : List V) (E : XK) (t : TA) : TE := fun σ H Q => t σ H fun vs H1 => sp (vs ++ dvs) H1 Q E
def fw (K : PySem.W.Frag) (fd : FuncData) (ps : List Str) (ds : List Value) : Prop :=
 ∀ (s : Shared) (us : List Value), K.In s.heap -> (us ++ ds).length = ps.length -> BindsTo s fd ⟨us, []⟩ (ps.zip (us ++ ds))
theorem fw.all {K : PySem.W.Frag} {fd : FuncData} {ps : List Str} (h : ∀ us : List Value, us.length = ps.length -> bindArgs fd ⟨us, []⟩ = pure (ps.zip us)) : fw K fd ps [] := fun s us _ hl => by
 rw [List.append_nil] at hl ⊢
 exact .of_eq (h us hl)
def nO (CX : CXT) (X : Cx) (E : XK) : Prop := ∀ (pins : List (Addr × Obj)) (σ : St) (H : Hp) (s : Shared) (e : Value) (s' : Shared), Inv X pins σ H s -> CX X.stack H s E e s' -> X.xe e s'
section
variable {X : Cx} {CX : CXT} {k : Nat} {f C : Addr} {fd : FuncData} {ps : List Str} {sp : Sp} {dvs : List V} {ds : List Value} {E : XK} {x m : Str} {p pos apos : Pos} {e o : Expr} {es : List Expr} {ta : TE} {t : TA}
theorem tR {pins : List (Addr × Obj)} {σ : St} {H : Hp} {s : Shared} {Q : VK} {us : List Value} {vs : List V} (F : br X.prog X.w X.K X.mg X.base CX k f fd ps sp) (hr : cR k X.A) (hb : fw X.K fd ps ds) (hd : aU dvs ds) (hx : nO CX X E)
  (I : Inv X pins σ H s) (r : aU vs us) (h : sp (vs ++ dvs) H Q E) : wpAny (model X.prog X.w) X.A (call (.ref f) us) (EP X pins σ Q) X.xe s := by
 have r2 : aU (vs ++ dvs) (us ++ ds) := r.append hd
 have hl : (us ++ ds).length = ps.length := by rw [<- r2.length]; exact F.len _ _ _ _ h
 refine wpAny_call (codeAny_mono (F.run X.A X.stack s H ⟨us, []⟩ (us ++ ds) (vs ++ dvs) Q E hr I.env0 (hb s us I.kIn hl) r2 h) fun r s' hq => ?_)
 cases r with
 | error e => exact hx pins σ H s e s' I hq
 | ok fl =>
  cases fl with
  | ret u => exact I.after hq
  | next => exact False.elim hq
  | brk => exact False.elim hq
  | cont => exact False.elim hq
theorem pi (F : br X.prog X.w X.K X.mg X.base CX k f fd ps sp) (hr : cR k X.A) (hg : Gl X x) (hm : X.mg x = some (.ref f)) (hk : PySem.W.keepIn X.K (.ref f) = true) (hb : fw X.K fd ps ds) (hd : aU dvs ds) (hx : nO CX X E)
  (ha : PA X (e :: es) t) (hdb : (x == ("__debug__" : Str)) = false := by decide) (he : starEach (e :: es) X.env = (false, eval e X.env) :: starEach es X.env := by rfl) (hpl : (backTo pos (starEach es X.env)).any (·.1) = false := by rfl) :
  PE X (.Call (.Name x p) (e :: es) [] pos) (sM sp dvs E t) := by
 intro pins s σ H Q I h
 refine wpAny_Call_Name_kw (pH I hg hm ?_ hdb)
 refine PySem.W.callWith_K (h₀ := X.base) I.ok.mod.kin hk (thn (ha pos pins s σ H _ I h) fun us s1 ⟨vs, H1, I1, r, q⟩ => ⟨I1.kIn, ?_⟩) he hpl
 exact tR F hr hb hd hx I1 r q
end
section
variable {X : Cx} {CX : CXT} {k : Nat} {f C : Addr} {fd : FuncData} {ps ks : List Str} {sp : Sp} {E : XK} {x m : Str} {p pos apos kpos : Pos} {e o : Expr} {es : List Expr} {kws : List Keyword} {te ta : TE} {t tk : TA} {nm : Option Str}
variable {g : List Value -> List Value -> List Value} {gV : List V -> List V -> List V}
end
structure aW (N P : List Str) (sc : Scope) : Prop where
 kind : sc.kind = .function
 co : sc.isCoroutine = false
 gen : sc.isGenerator = false
 nd : N.Nodup
 pre : N.take P.length = P
 par : ∀ x ∈ P, sc.names.lookup x = some .local \/ sc.names.lookup x = some .cell
 nofree : ∀ y ∈ sc.names, y.2 ≠ .free
theorem jZ {kindOf : Str -> Option NameKind} {x : Str} : ∀ {binds : List (Str × Value)} {m : Str -> Option Value}, (∀ v, (x, v) ∉ binds) -> bindL kindOf binds m x = m x
 | [], _, _ => rfl
 | (n, v) :: r, m, h => by
  unfold bindL
  rw [jZ fun w hw => h w (List.mem_cons_of_mem _ hw)]
  split
  ·have : x ≠ n := by rintro rfl; exact h v List.mem_cons_self
   simp [this]
  ·rfl
theorem jP {kindOf : Str -> Option NameKind} {x : Str} : ∀ {binds : List (Str × Value)} {m : Str -> Option Value}, (∀ v, (x, v) ∉ binds) -> bindC kindOf binds m x = m x
 | [], _, _ => rfl
 | (n, v) :: r, m, h => by
  unfold bindC
  rw [jP fun w hw => h w (List.mem_cons_of_mem _ hw)]
  split
  ·rfl
  ·have : x ≠ n := by rintro rfl; exact h v List.mem_cons_self
   simp [this]
theorem jH {kindOf : Str -> Option NameKind} {x : Str} {v : Value} : ∀ {P : List Str} {vs : List Value} {i : Nat} {m : Str -> Option Value}, P.Nodup -> P[i]? = some x -> vs[i]? = some v -> kindOf x = some .local ->
  bindL kindOf (P.zip vs) m x = some v
 | [], _, _, _, _, h, _, _ => by simp at h
 | _ :: _, [], _, _, _, _, h, _ => by simp at h
 | p :: P, w :: vs, 0, m, nd, h1, h2, hk => by
  simp at h1 h2; subst h1; subst h2
  show bindL kindOf ((p, w) :: P.zip vs) m p = _
  unfold bindL
  rw [jZ fun v hv => (List.nodup_cons.mp nd).1 (List.of_mem_zip hv).1, if_pos hk]
  simp
 | p :: P, w :: vs, i + 1, m, nd, h1, h2, hk => by
  show bindL kindOf ((p, w) :: P.zip vs) m x = _
  unfold bindL
  exact jH (i := i) (List.nodup_cons.mp nd).2 (by simpa using h1) (by simpa using h2) hk
theorem jV {kindOf : Str -> Option NameKind} {x : Str} {v : Value} : ∀ {P : List Str} {vs : List Value} {i : Nat} {m : Str -> Option Value}, P.Nodup -> P[i]? = some x -> vs[i]? = some v -> kindOf x ≠ some .local ->
  bindC kindOf (P.zip vs) m x = some v
 | [], _, _, _, _, h, _, _ => by simp at h
 | _ :: _, [], _, _, _, _, h, _ => by simp at h
 | p :: P, w :: vs, 0, m, nd, h1, h2, hk => by
  simp at h1 h2; subst h1; subst h2
  show bindC kindOf ((p, w) :: P.zip vs) m p = _
  unfold bindC
  rw [jP fun v hv => (List.nodup_cons.mp nd).1 (List.of_mem_zip hv).1, if_neg hk]
  simp
 | p :: P, w :: vs, i + 1, m, nd, h1, h2, hk => by
  show bindC kindOf ((p, w) :: P.zip vs) m x = _
  unfold bindC
  exact jV (i := i) (List.nodup_cons.mp nd).2 (by simpa using h1) (by simpa using h2) hk
def gg (N : List Str) (vs : List V) : St := vs.map some ++ List.replicate (N.length - vs.length) none
def nN (CX : CXT) (P : Program) (w : World) (K : PySem.W.Frag) (mg : Str -> Option Value) (base : Heap) (N : List Str) (qual : Str) (scope : Scope) (f : Addr) (cd : Value) (A : Around) (outer : List Env) (s : Shared) (H : Hp) (E : XK) : Cx where
 prog := P
 w := w
 K := K
 mg := mg
 base := base
 A := A.deeper (envOfC qual scope s.heap.objs.size f cd)
 N := N
 s₀ := s
 H₀ := H
 env := envOfC qual scope s.heap.objs.size f cd
 outer := outer
 stack := envOfC qual scope s.heap.objs.size f cd :: outer
 ex := []
 calm := true
 fn := fun _ => true
 pn := []
 xe := fun e s' => wpAny (model P w) (A.deeper (envOfC qual scope s.heap.objs.size f cd)) (leaving (envOfC qual scope s.heap.objs.size f cd) e) (fun _ s'' => CX outer H s E e s'') (fun e' s'' => CX outer H s E e' s'') s'
theorem mO {sc : Scope} {n : Nat} {x : Str} (h : sc.names.lookup x = some .cell) : ∃ c, (cellsFrom n sc.names []).lookup x = some c := by
 have q := PySem.W.cellsFrom_some sc.names n [] (.inl h)
 exact Option.isSome_iff_exists.mp q
theorem qG {CX : CXT} {P : Program} {w : World} {K : PySem.W.Frag} {mg : Str -> Option Value} {base : Heap} {N ps : List Str} {qual : Str} {scope : Scope} {f : Addr} {cd : Value} {A : Around} {outer : List Env} {s s1 : Shared} {H : Hp} {E : XK} {us : List Value} {vs : List V}
  (S : aW N ps scope) (hd : A.handled = none) (e0 : ve P w K mg base A outer s H) (hl : vs.length = ps.length) (r : aU vs us)
  (x : InCallC s s.heap.objs.size (bindL (envOfC qual scope s.heap.objs.size f cd).kindOf (ps.zip us) fun _ => none) (cellsFrom (s.heap.objs.size + 1) scope.names []) (bindC (envOfC qual scope s.heap.objs.size f cd).kindOf (ps.zip us) fun _ => none) s1) :
  Inv (nN CX P w K mg base N qual scope f cd A outer s H E) [] (gg N vs) H s1 := by
 have hpl : ps.length <= N.length := by have := congrArg List.length S.pre; rw [List.length_take] at this; omega
 obtain ⟨h1, tk, rfl, hk⟩ := x.done
 have noA : ∀ b : Addr, b ∉ (nN CX P w K mg base N qual scope f cd A outer s H E).ex := fun b z => absurd (show b ∈ ([] : List Addr) from z) (by simp)
 refine ⟨⟨e0.mod, S.kind, rfl, rfl, Nat.le_refl _, fun y z c h1 h2 => ?_, fun y hy => ?_, fun y c _ h => ?_, fun _ => hd, Around.frames_deeper e0.frames, .inr ⟨rfl, rfl⟩, fun b z => absurd z (noA b), e0.bs, e0.bsz, fun b _ _ => noA b, fun b z => absurd z (noA b), e0.funs, e0.frf⟩,
  rfl, e0.bare, Un.kept hk, ⟨_, x.toInCall.ns, fun i y v h1 h2 h3 => ?_⟩, fun y c h => ⟨_, x.cell y c h⟩, e0.hok.fresh (Nat.le_refl _), fun y c h => ?_, fun p hp => absurd (show p ∈ ([] : List (Addr × Obj)) from hp) (by simp), e0.hok.kept hk, ?_⟩
 ·exact name_of_addr x.apart (PySem.mem_of_lookup h1) (PySem.mem_of_lookup h2)
 ·have hy : scope.names.lookup y = some .cell \/ scope.names.lookup y = some .free := hy
  rcases hy with hy | hy
  ·exact mO hy
  ·exact absurd rfl (S.nofree _ (PySem.mem_of_lookup hy))
 ·exact Nat.le_of_lt (x.above y c (PySem.mem_of_lookup h))
 ·have hi : i < vs.length := by
   unfold gg at h2
   by_cases hi : i < vs.length
   ·exact hi
   ·rw [List.getElem?_append_right (by simpa using hi)] at h2
    rw [List.getElem?_replicate] at h2
    split at h2 <;> cases h2
  have ha : vs[i]? = some v := by
   unfold gg at h2
   rw [List.getElem?_append_left (by simpa using hi), List.getElem?_map] at h2
   cases e : vs[i]? with
   | none => rw [e] at h2; cases h2
   | some a => rw [e] at h2; cases h2; rfl
  obtain ⟨u, hu, rv⟩ := r.get ha
  have hp : ps[i]? = some y := by
   rw [<- S.pre, List.getElem?_take_of_lt (by omega)]; exact h1
  have ndP : ps.Nodup := by rw [<- S.pre]; exact S.nd.sublist (List.take_sublist _ _)
  refine ⟨u, rv, ?_⟩
  rcases S.par y (List.mem_of_getElem? hp) with k | k
  ·exact .inl ⟨k, jH ndP hp hu k⟩
  ·obtain ⟨c, e⟩ := mO (n := s.heap.objs.size + 1) k
   refine .inr ⟨.inl k, c, e, ?_⟩
   have q := x.cell y c e
   rw [jV ndP hp hu (by show scope.names.lookup y ≠ _; rw [k]; decide)] at q
   exact q
 ·exact e0.hok.fresh (Nat.le_of_lt (x.above y c (PySem.mem_of_lookup h)))
 ·unfold gg
  show _ = N.length
  rw [List.length_append, List.length_map, List.length_replicate]
  omega
theorem vo {CX : CXT} {P : Program} {w : World} {K : PySem.W.Frag} {mg : Str -> Option Value} {base : Heap} {k : Nat} {f : Addr} {name qual : Str} {params : Arguments} {body : List Stmt} {scope : Scope} {dV kV doc pm cdv ct oc : Value} {an od : Option Addr}
  {osl : Array (Option Value)} {N ps : List Str} {sp : Sp} (lk : K.lookup f = some ⟨oc, od, .func (PySem.W.fnOf name qual params body scope dV kV doc pm an cdv ct), osl⟩) (hcd : PySem.W.codeIn K cdv qual = true) (S : aW N ps scope)
  (len : ∀ vs H Q E, sp vs H Q E -> vs.length = ps.length)
  (hbody : ∀ (A : Around) (outer : List Env) (s : Shared) (H : Hp) (vs : List V) (Q : VK) (E : XK), cR k (A.deeper (envOfC qual scope s.heap.objs.size f cdv)) -> sp vs H Q E ->
   ∃ t, PSs (nN CX P w K mg base N qual scope f cdv A outer s H E) body t /\ t { nx := fun _ H' => Q .non H', rt := Q } (gg N vs) H) :
  br P w K mg base CX (k + 1) f (PySem.W.fnOf name qual params body scope dV kV doc pm an cdv ct) ps sp := by
 refine ⟨len, fun A outer s H args us vs Q E hr e0 hb r hsp => ?_⟩
 have hl := len _ _ _ _ hsp
 have KX : K.In s.heap := e0.mod.kin.keeps fun b o e => (e0.bs b o e).1
 have lim : s.heap.NoLimit := e0.mod.nolimit.keeps fun b o e => (e0.bs b o e).1
 have hkind : ∀ y ∈ ps.zip us, scope.names.lookup y.1 = some .local \/ (scope.names.lookup y.1 = some .cell /\ ((cellsFrom (s.heap.objs.size + 1) scope.names []).lookup y.1).isSome = true) := fun ⟨n, v⟩ hy => by
  rcases S.par n (List.of_mem_zip hy).1 with q | q
  ·exact .inl q
  ·exact .inr ⟨q, PySem.W.cellsFrom_some _ _ _ (.inl q)⟩
 refine codeAny_call_function hr.depth (KX _ _ lk) rfl S.co S.gen rfl (PySem.W.codeRec_of KX hcd) (hb _ _ _ _ ?_)
 refine wpAny_newFunctionEnv_cells S.kind hkind fun env he s1 x => ?_
 subst he
 refine ⟨lim.keeps x.toInCall.keep, codeAny_func ?_⟩
 obtain ⟨t, ht, hq⟩ := hbody A outer s H vs Q E (hr.deeper _) hsp
 have I : Inv (nN CX P w K mg base N qual scope f cdv A outer s H E) [] (gg N vs) H s1 := qG S hr.hd e0 hl r x
 refine wpAny_mono (ht [] s1 (gg N vs) H _ I hq) (fun fl s' hs => ?_) fun e s' hs => hs
 have fin : ∀ {σ' : St} {H' : Hp} {v : V} {u : Value}, Inv (nN CX P w K mg base N qual scope f cdv A outer s H E) [] σ' H' s' -> aX v u -> Q v H' -> CE outer P w H s Q u s' :=
  fun {σ' H' v u} J rv q => ⟨v, H', J.os, J.bare, J.base, J.hok, rv, q⟩
 cases fl with
 | ret u =>
  obtain ⟨v, σ', H', J, rv, q⟩ := hs
  exact fin J rv q
 | next =>
  obtain ⟨σ', H', J, q⟩ := hs
  exact fin (v := V.non) (u := Value.none) J rfl q
 | brk =>
  obtain ⟨_, _, _, q⟩ := hs
  exact False.elim q
 | cont =>
  obtain ⟨_, _, _, q⟩ := hs
  exact False.elim q
section
variable {X : Cx} {x : Str} {p pos : Pos} {e : Expr} {es : List Expr} {t : TA} {id T : String} {r : List V -> Hp -> VK -> Prop}
def tCB (r : List V -> Hp -> VK -> Prop) (t : TA) : TE := fun σ H Q => t σ H fun vs H1 => r vs H1 Q
theorem bt (hc : de X (.builtin id) r) (hg : Gl X x) (hm : X.mg x = none) (hv : bootBuiltins x = some (.builtin id)) (ha : PA X (e :: es) t) (hn : x ≠ "__name__" := by decide) (hdb : (x == ("__debug__" : Str)) = false := by decide)
  (he : starEach (e :: es) X.env = (false, eval e X.env) :: starEach es X.env := by rfl) (hpl : (backTo pos (starEach es X.env)).any (·.1) = false := by rfl) : PE X (.Call (.Name x p) (e :: es) [] pos) (tCB r t) := by
 intro pins s σ H Q I h
 refine wpAny_Call_Name_kw (cU I hg hm hv ?_ hn hdb)
 exact PyProof.Rows.callWith_builtin1 (thn (ha pos pins s σ H _ I h) fun us s1 ⟨vs, H1, I1, r1, q1⟩ => hc pins s1 σ H1 vs us Q I1 r1 q1) he hpl
theorem aZ (hc : de X (.type T) r) (hg : Gl X x) (hm : X.mg x = none) (hv : bootBuiltins x = some (.type T)) (ha : PA X (e :: es) t) (hn : x ≠ "__name__" := by decide) (hdb : (x == ("__debug__" : Str)) = false := by decide)
  (he : starEach (e :: es) X.env = (false, eval e X.env) :: starEach es X.env := by rfl) (hpl : (backTo pos (starEach es X.env)).any (·.1) = false := by rfl) : PE X (.Call (.Name x p) (e :: es) [] pos) (tCB r t) := by
 intro pins s σ H Q I h
 refine wpAny_Call_Name_kw (cU I hg hm hv ?_ hn hdb)
 exact PyProof.Rows.callWith_type1 (thn (ha pos pins s σ H _ I h) fun us s1 ⟨vs, H1, I1, r1, q1⟩ => hc pins s1 σ H1 vs us Q I1 r1 q1) he hpl
end
section
variable {κ : Type} [DecidableEq κ]
def cw (kvs : List (κ × V)) (k : κ) : Option V := (kvs.find? fun kv => decide (kv.1 = k)).map (·.2)
def cC (kvs : List (κ × V)) (k : κ) (v : V) : List (κ × V) :=
 if (kvs.any fun kv => decide (kv.1 = k)) = true then kvs.map (fun kv => if kv.1 = k then (kv.1, v) else kv) else kvs ++ [(k, v)]
theorem dN {p : κ × V} {r : List (κ × V)} {k : κ} (e : p.1 = k) : cw (p :: r) k = some p.2 := by simp [cw, List.find?_cons, e]
theorem dL {p : κ × V} {r : List (κ × V)} {k : κ} (e : ¬ p.1 = k) : cw (p :: r) k = cw r k := by simp [cw, List.find?_cons, e]
theorem nj (k : κ) : ∀ kvs : List (κ × V), (kvs.any fun kv => decide (kv.1 = k)) = (cw kvs k).isSome
 | [] => rfl
 | p :: r => by
  rw [List.any_cons]
  by_cases e : p.1 = k
  ·simp only [dN e, decide_eq_true e, Bool.true_or, Option.isSome_some]
  ·rw [dL e, decide_eq_false e, Bool.false_or]; exact nj k r
theorem gQ (kvs : List (κ × V)) (k : κ) (v : V) : (cC kvs k v).length <= kvs.length + 1 := by
 unfold cC
 split
 ·rw [List.length_map]; omega
 ·rw [List.length_append, List.length_cons, List.length_nil]; omega
theorem gp.isSome_eq {o : Option V} {u : Option Value} (r : gp o u) : o.isSome = u.isSome := by
 cases o with
 | none => cases u with
  | none => rfl
  | some _ => exact (show False from r).elim
 | some _ => cases u with
  | none => exact (show False from r).elim
  | some _ => rfl
theorem gp.getD {o : Option V} {u : Option Value} {d : V} {d' : Value} (r : gp o u) (rd : aX d d') : aX (o.getD d) (u.getD d') := by
 cases o with
 | none => cases u with
  | none => exact rd
  | some _ => exact (show False from r).elim
 | some _ => cases u with
  | none => exact (show False from r).elim
  | some _ => exact r
theorem KV.val {kvs : List (κ × V)} {vs : List (κ × Value)} (r : KV kvs vs) (k : κ) : gp (cw kvs k) (valueAt vs k) := by
 unfold KV at r
 induction r with
 | nil => exact True.intro
 | @cons p q ps qs h t ih =>
  obtain ⟨h1, h2⟩ := h
  by_cases e : p.1 = k
  ·have e' : q.1 = k := h1.symm.trans e
   have b : valueAt (q :: qs) k = some q.2 := by simp [valueAt, List.find?_cons, e']
   rw [dN e, b]; exact h2
  ·have e' : ¬ q.1 = k := fun z => e (h1.trans z)
   have b : valueAt (q :: qs) k = valueAt qs k := by simp [valueAt, List.find?_cons, e']
   rw [dL e, b]; exact ih
theorem KV.any {kvs : List (κ × V)} {vs : List (κ × Value)} (r : KV kvs vs) (k : κ) : (kvs.any fun kv => decide (kv.1 = k)) = vs.any fun kv => decide (kv.1 = k) := by
 unfold KV at r
 induction r with
 | nil => rfl
 | cons h t ih => rw [List.any_cons, List.any_cons, ih, h.1]
theorem KV.repl {kvs : List (κ × V)} {vs : List (κ × Value)} (r : KV kvs vs) (k : κ) {y : V} {u : Value} (ry : aX y u) :
  KV (kvs.map fun kv => if kv.1 = k then (kv.1, y) else kv) (vs.map fun kv => if kv.1 = k then (kv.1, u) else kv) := by
 unfold KV at r ⊢
 induction r with
 | nil => exact .nil
 | @cons p q ps qs h t ih =>
  rw [List.map_cons, List.map_cons]
  refine .cons ?_ ih
  obtain ⟨h1, h2⟩ := h
  by_cases e : p.1 = k
  ·rw [if_pos e, if_pos (h1.symm.trans e)]; exact ⟨h1, ry⟩
  ·rw [if_neg e, if_neg (fun z => e (h1.trans z))]; exact ⟨h1, h2⟩
theorem KV.put {kvs : List (κ × V)} {vs : List (κ × Value)} (r : KV kvs vs) (k : κ) {y : V} {u : Value} (ry : aX y u) : KV (cC kvs k y) (stored vs k u) := by
 unfold cC stored
 rw [r.any k]
 by_cases e : (vs.any fun kv => decide (kv.1 = k)) = true
 ·rw [if_pos e, if_pos e]; exact r.repl k ry
 ·rw [if_neg e, if_neg e]; exact Paired.snoc r ⟨rfl, ry⟩
theorem KV.keys {kvs : List (κ × V)} {vs : List (κ × Value)} (r : KV kvs vs) : kvs.map (·.1) = vs.map (·.1) := by
 unfold KV at r
 induction r with
 | nil => rfl
 | cons h t ih => rw [List.map_cons, List.map_cons, ih, h.1]
theorem KV.length {kvs : List (κ × V)} {vs : List (κ × Value)} (r : KV kvs vs) : kvs.length = vs.length := Paired.length r
end
theorem jw {P : Program} {w : World} {k : Key} {u : Value} (r : aX (kV k) u) : (be P w).is k u = true := by
 cases k with
 | inl i => obtain ⟨t, e⟩ := (show ∃ t, u = Value.int i t from r); subst e; exact nv P w i t
 | inr x => obtain ⟨t, e⟩ := (show ∃ t, u = Value.str x t from r); subst e; exact mi P w x t
theorem jX {P : Program} {w : World} : ∀ {ks : List Key} {us : List Value}, aU (ks.map kV) us -> ItemsAre (be P w) ks us
 | [], _, r => by rw [List.map_nil] at r; cases r; exact .nil
 | k :: ks, _, r => by
  rw [List.map_cons] at r
  cases r with
  | cons h t => exact .cons (jw h) (jX t)
abbrev KT (H : Hp) : List (List Key × V) -> List (List Key × Addr × Value) -> Prop := Paired fun p q => p.1 = q.1 /\ H q.2.1 = some (.tup (p.1.map kV)) /\ aX p.2 q.2.2
theorem KT.val {H : Hp} {kvs : List (List Key × V)} {xs : List (List Key × Addr × Value)} (r : KT H kvs xs) (k : List Key) : gp (cw kvs k) ((atKey xs k).map (·.2)) := by
 induction r with
 | nil => exact True.intro
 | @cons p q ps qs h t ih =>
  obtain ⟨h1, _, h2⟩ := h
  by_cases e : p.1 = k
  ·have e' : q.1 = k := h1.symm.trans e
   have b : atKey (q :: qs) k = some q.2 := by simp [atKey, List.find?_cons, e']
   rw [dN e, b]; exact h2
  ·have e' : ¬ q.1 = k := fun z => e (h1.trans z)
   have b : atKey (q :: qs) k = atKey qs k := by simp [atKey, List.find?_cons, e']
   rw [dL e, b]; exact ih
theorem KT.repl {H : Hp} {kvs : List (List Key × V)} {xs : List (List Key × Addr × Value)} (r : KT H kvs xs) (k : List Key) {y : V} {u : Value} (ry : aX y u) :
  KT H (kvs.map fun kv => if kv.1 = k then (kv.1, y) else kv) (xs.map (putAt k u)) := by
 induction r with
 | nil => exact .nil
 | @cons p q ps qs h t ih =>
  rw [List.map_cons, List.map_cons]
  refine .cons ?_ ih
  obtain ⟨h1, h2, h3⟩ := h
  unfold putAt
  by_cases e : p.1 = k
  ·rw [if_pos e, if_pos (h1.symm.trans e)]; exact ⟨h1, h2, ry⟩
  ·rw [if_neg e, if_neg (fun z => e (h1.trans z))]; exact ⟨h1, h2, h3⟩
theorem KT.put {H : Hp} {kvs : List (List Key × V)} {xs : List (List Key × Addr × Value)} (r : KT H kvs xs) (k : List Key) {b : Addr} {y : V} {u : Value} (hb : H b = some (.tup (k.map kV))) (ry : aX y u) :
  KT H (cC kvs k y) (storedH xs k b u) := by
 have e : (kvs.any fun kv => decide (kv.1 = k)) = (atKey xs k).isSome := by
  rw [nj, (r.val k).isSome_eq, Option.isSome_map]
 unfold cC storedH
 rw [e]
 by_cases q : (atKey xs k).isSome = true
 ·rw [if_pos q, if_pos q]; exact r.repl k ry
 ·rw [if_neg q, if_neg q]; exact Paired.snoc r ⟨rfl, hb, ry⟩
theorem KT.keeps {H H' : Hp} {kvs : List (List Key × V)} {xs : List (List Key × Addr × Value)} (r : KT H kvs xs) (ht : ∀ b ys, H b = some (.tup ys) -> H' b = some (.tup ys)) : KT H' kvs xs :=
 Paired.mapP r fun _ _ z => ⟨z.1, ht _ _ z.2.1, z.2.2⟩
section
variable {P : Program} {w : World} {H : Hp} {h : Heap} {a : Addr}
theorem vk {u : HO} (ok : HOk P w H h) (e : Rd H a u) : bg P w H h a u := e.ok ok
theorem jz {kvs : List (Key × V)} (ok : HOk P w H h) (e : Rd H a (.dK kvs)) : kvs.length <= sizeLine /\ (a == sysModules) = false /\ ∃ vs, KV kvs vs /\ h.DictOf (be P w) a vs :=
 show bg P w H h a (.dK kvs) from vk ok e
theorem tK {kvs : List (Key × V)} (ok : HOk P w H h) (e : H a = some (.dK kvs)) : kvs.length <= sizeLine /\ (a == sysModules) = false /\ ∃ vs, KV kvs vs /\ h.DictOf (be P w) a vs := jz ok (.inl e)
theorem jc {ks : List Key} (ok : HOk P w H h) (e : H a = some (.tup (ks.map kV))) : (tupleKind (be P w)).is h ks a := by
 obtain ⟨_, its, r, ⟨o, h1, h2, n, h3⟩, _⟩ := (show bg P w H h a (.tup (ks.map kV)) from ok a _ e)
 exact ⟨o, its.toArray, n, h1, h2, h3, by simpa using jX r⟩
theorem jY {kvs : List (List Key × V)} (ok : HOk P w H h) (e : Rd H a (.dT kvs)) : kvs.length <= sizeLine /\ (a == sysModules) = false /\
  ∃ xs, KT H kvs xs /\ h.DictOfH (tupleKind (be P w)) a xs := by
 obtain ⟨z, y, xs, r, o, es, ep, h1, h2, h3, h4, h5⟩ := (show bg P w H h a (.dT kvs) from vk ok e)
 refine ⟨z, y, xs, r, o, es, ep, h1, h2, h3, h4, fun x hx => ?_, h5⟩
 have all : ∀ {l : List (List Key × V)} {m : List (List Key × Addr × Value)}, KT H l m -> ∀ x ∈ m, (tupleKind (be P w)).is h x.1 x.2.1 := by
  intro l m q
  induction q with
  | nil => intro x hx; exact nomatch hx
  | @cons p q ps qs hq t ih =>
   intro x hx
   rcases List.mem_cons.mp hx with e | hx
   ·subst e
    exact jc ok (by rw [<- hq.1]; exact hq.2.1)
   ·exact ih x hx
 exact all r x hx
theorem wW {kvs : List (List Key × V)} (ok : HOk P w H h) (e : H a = some (.dT kvs)) : kvs.length <= sizeLine /\ (a == sysModules) = false /\
  ∃ xs, KT H kvs xs /\ h.DictOfH (tupleKind (be P w)) a xs := jY ok (.inl e)
end
def dC (H : Hp) (a : Addr) (y : V) (r : Option V) : Prop :=
 (∃ kvs k, Rd H a (.dK kvs) /\ y = kV k /\ r = cw kvs k) \/ ∃ kvs k b, Rd H a (.dT kvs) /\ y = .ref b /\ H b = some (.tup (k.map kV)) /\ r = cw kvs k
def gY (H : Hp) (a : Addr) (y v : V) (H' : Hp) : Prop :=
 (∃ kvs k, H a = some (.dK kvs) /\ y = kV k /\ kvs.length < sizeLine /\ H' = upd H a (.dK (cC kvs k v))) \/
 ∃ kvs k b, H a = some (.dT kvs) /\ y = .ref b /\ H b = some (.tup (k.map kV)) /\ kvs.length < sizeLine /\ H' = upd H a (.dT (cC kvs k v))
theorem dC.k {H : Hp} {a : Addr} {kvs : List (Key × V)} {k : Key} (e : H a = some (.dK kvs)) : dC H a (kV k) (cw kvs k) := .inl ⟨kvs, k, .inl e, rfl, rfl⟩
theorem gY.k {H : Hp} {a : Addr} {kvs : List (Key × V)} {k : Key} {v : V} (e : H a = some (.dK kvs)) (hl : kvs.length < sizeLine) : gY H a (kV k) v (upd H a (.dK (cC kvs k v))) := .inl ⟨kvs, k, e, rfl, hl, rfl⟩
section
variable {X : Cx} {pins : List (Addr × Obj)} {σ : St} {H : Hp} {s : Shared} {a : Addr} {y v : V} {u r : Value} {o : Option V} {A : Around} {E : Value -> Shared -> Prop}
theorem Inv.big (I : Inv X pins σ H s) : sysModules < s.heap.objs.size := by
 have h : mainGlobals < s.heap.objs.size := (I.mod.glob.keeps I.bk).lt
 exact Nat.lt_trans (by decide) h
theorem qr {Q : Value -> Shared -> Prop} (hu : A.units + 1 < cLine) (I : Inv X pins σ H s) (g : dC H a y (some v)) (ry : aX y u) (h : ∀ w' s', Inv X pins σ H s' -> aX v w' -> Q w' s') :
  wpAny (model X.prog X.w) A (getItem (.ref a) u) Q E s := by
 rcases g with ⟨kvs, k, e, ey, l⟩ | ⟨kvs, k, b, e, ey, eb, l⟩
 ·subst ey
  obtain ⟨z, hd, vs, rel, dd⟩ := jz I.hok e
  obtain ⟨w', hw, rw'⟩ := gp.some_of (v := v) (o := valueAt vs k) (by rw [l]; exact rel.val k)
  exact wpAny_getItem_of (jw ry) dd.mapOf hw (h w' _ (I.tok _) rw')
 ·subst ey
  cases (show u = Value.ref b from ry)
  obtain ⟨z, hd, xs, rel, dd⟩ := jY I.hok e
  obtain ⟨w', hw, rw'⟩ := gp.some_of (v := v) (o := (atKey xs k).map (·.2)) (by rw [l]; exact rel.val k)
  obtain ⟨p, hp, hp2⟩ := Option.map_eq_some_iff.mp hw
  refine wpAny_getItem_heap (tupleKind_room_in1 hu) (jc I.hok eb) dd hp ?_
  rw [hp2]
  exact h w' _ (I.tok _) rw'
theorem uo {Q : Value -> Shared -> Prop} (hu : A.units + 1 < cLine) (I : Inv X pins σ H s) (g : dC H a y o) (ry : aX y u) (h : ∀ s', Inv X pins σ H s' -> Q (.bool (!o.isSome)) s') :
  wpAny (model X.prog X.w) A (compareOp .NotIn u (.ref a)) Q E s := by
 rcases g with ⟨kvs, k, e, ey, l⟩ | ⟨kvs, k, b, e, ey, eb, l⟩
 ·subst ey
  obtain ⟨z, hd, vs, rel, dd⟩ := jz I.hok e
  refine wpAny_notIn_of (jw ry) hd dd.mapOf ?_
  rw [<- (rel.val k).isSome_eq, <- l]
  exact h _ (I.tok _)
 ·subst ey
  cases (show u = Value.ref b from ry)
  obtain ⟨z, hd, xs, rel, dd⟩ := jY I.hok e
  refine wpAny_notIn_heap (tupleKind_room_in1 hu) (jc I.hok eb) hd dd ?_
  have q := (rel.val k).isSome_eq
  rw [Option.isSome_map] at q
  rw [<- q, <- l]
  exact h _ (I.tok _)
theorem oZ {h' : Heap} {t' : Nat} {ob : HO} (I : Inv X pins σ H s) (mu : Mut (H a)) (hs : Heap.SameBut a s.heap h') (he : ∃ q, h'.get? a = some q) (new : bg X.prog X.w (upd H a ob) h' a ob) :
  Inv X pins σ (upd H a ob) { s with heap := h', toks := t' } :=
 I.write (x := a) (e := a) mu (.inl rfl) (fun b q hb z => (hs.2 b hb).trans z) he new
theorem tG {P : Program} {w : World} {H' : Hp} {h' : Heap} {kvs : List (Key × V)} {vs : List (Key × Value)} (z : kvs.length <= sizeLine) (hd : (a == sysModules) = false) (rel : KV kvs vs) (dd : h'.DictOf (be P w) a vs) :
  bg P w H' h' a (.dK kvs) := ⟨z, hd, vs, rel, dd⟩
theorem pV {H' : Hp} {Q : Unit -> Shared -> Prop} (hu : A.units + 1 < cLine) (I : Inv X pins σ H s) (g : gY H a y v H') (ry : aX y u) (rv : aX v r) (h : ∀ s', Inv X pins σ H' s' -> Q () s') :
  wpAny (model X.prog X.w) A (setItem (.ref a) u r) Q E s := by
 rcases g with ⟨kvs, k, e, ey, l, eH⟩ | ⟨kvs, k, b, e, ey, eb, l, eH⟩
 ·subst ey eH
  obtain ⟨z, hd, vs, rel, dd⟩ := tK I.hok e
  have hz : vs.length <= sizeLine := by rw [<- rel.length]; exact z
  have hl : (cC kvs k v).length <= sizeLine := by have := gQ kvs k v; omega
  refine wpAny_setItem_pairs (hsz := hz) (jw ry) dd fun h' dd' hs => h _ ?_
  have he : ∃ q, h'.get? a = some q := let ⟨q, _, _, hq, _⟩ := dd'; ⟨q, hq⟩
  exact oZ I (by rw [e]; exact True.intro) hs he (tG hl hd (rel.put k rv) dd')
 ·subst ey eH
  cases (show u = Value.ref b from ry)
  obtain ⟨z, hd, xs, rel, dd⟩ := wW I.hok e
  have hz : xs.length <= sizeLine := by rw [<- Paired.length rel]; exact z
  have hl : (cC kvs k v).length <= sizeLine := by have := gQ kvs k v; omega
  refine wpAny_setItem_heap (hsz := hz) (tupleKind_room_in1 hu) (jc I.hok eb) dd fun h' dd' hs => h _ ?_
  obtain ⟨q, es, ep, hq, h2, h3, h4, _, h5⟩ := dd'
  refine oZ I (by rw [e]; exact True.intro) hs ⟨q, hq⟩ ⟨hl, hd, _, (rel.put k eb rv).keeps fun c ys ec => ?_, q, es, ep, hq, h2, h3, h4, h5⟩
  rw [aq (wL ec e (fun z => nomatch z))]
  exact ec
end
section
variable {X : Cx} {pins : List (Addr × Obj)} {σ : St} {H : Hp} {s : Shared} {a : Addr} {kvs : List (Key × V)} {k : Key} {u : Value} {A : Around} {E : Value -> Shared -> Prop}
end
def xc (i : Expr) : Prop := ∀ ov iv, subscripted i false ov iv = operate [ov, iv] (getItem ov iv)
theorem um {prog : Program} {w : World} {A : Around} {E : Value -> Shared -> Prop} {s : Shared} {env : Env} {value slice : Expr} {pos : Pos} {T id : String} {Q : Value -> Shared -> Prop}
  (hl : typeLookup (.type T) "__getitem__" = pure (some (.builtin id))) (hs : xc slice)
  (h : wpAny (model prog w) A (eval value env) (fun o s₁ => wpAny (model prog w) A (eval slice env) (fun i s₂ => s₂.TypeIs o T /\ wpAny (model prog w) A (getItem o i) Q E s₂) E s₁) E s) :
  wpAny (model prog w) A (eval (.Subscript value slice pos) env) Q E s := by
 refine Subscript_ (wpAny_mono h (fun o s₁ h₁ => wpAny_mono h₁ (fun i s₂ h₂ => ?_) fun _ _ x => x) fun _ _ x => x)
 obtain ⟨hT, h₂⟩ := h₂
 unfold subscriptTail
 refine wpAny_bind ?_
 rw [getitemInPython_of_ne hT.not_modules]
 refine wpAny_bind (wpAny_specialOf hT hl ?_)
 have fin : wpAny (model prog w) A (subscripted slice false o i) (fun r s₃ => wpAny (model prog w) A (letTemporaryGo value o r >>= fun _ => pure r) Q E s₃) E s₂ := by
  rw [hs o i]
  exact wpAny_operating (wpAny_mono h₂ (fun r s₃ h₃ => wpAny_bind (wpAny_letTemporaryGo (wpAny_pure h₃))) fun _ _ x => x)
 first
  | exact wpAny_pure (wpAny_bind fin)
  | exact wpAny_bind (wpAny_pure (wpAny_bind fin))
  | exact wpAny_bind fin
theorem ng {X : Cx} {pins : List (Addr × Obj)} {σ : St} {H : Hp} {s : Shared} {a : Addr} {y : V} {o : Option V} (I : Inv X pins σ H s) (g : dC H a y o) : s.TypeIs (.ref a) "dict" := by
 rcases g with ⟨kvs, k, e, _, _⟩ | ⟨kvs, k, b, e, _, _, _⟩
 ·obtain ⟨_, _, vs, _, dd⟩ := jz I.hok e
  exact dd.typeIs
 ·obtain ⟨_, _, xs, _, dd⟩ := jY I.hok e
  exact dd.typeIs
def wZ (td ty : TE) : TE := fun σ H Q => td σ H fun x H1 => ty σ H1 fun y H2 => ∃ a v, x = .ref a /\ dC H2 a y (some v) /\ Q v H2
def wT (td ty tv : TE) : TS := fun D σ H => tv σ H fun v H1 => td σ H1 fun x H2 => ty σ H2 fun y H3 => ∃ a H4, x = .ref a /\ gY H3 a y v H4 /\ D.nx σ H4
section
variable {X : Cx} {o i e value : Expr} {pos pos' tpos : Pos} {td ty tv : TE}
theorem fP (hu : X.A.units + 1 < cLine) (ho : PE X o td) (hi : PE X i ty) (hs : xc i) : PE X (.Subscript o i pos) (wZ td ty) := by
 intro pins s σ H Q I h
 refine um PySem.F.slot_dict_getitem.lookup hs (thn (ho pins s σ H _ I h) fun u s1 ⟨x, H1, I1, rx, q1⟩ => thn (hi pins s1 σ H1 _ I1 q1) fun iv s2 ⟨y, H2, I2, ry, a, v, ex, g, q2⟩ => ?_)
 subst ex
 obtain rfl : u = Value.ref a := rx
 exact ⟨ng I2 g, qr hu I2 g ry fun w' s3 I3 rw' => ⟨v, H2, I3, rw', q2⟩⟩
theorem dg (hu : X.A.units + 1 < cLine) (ho : PE X o td) (hi : PE X i ty) (hv : PE X value tv) (hs : swapsWith value (some (.Subscript o i pos')) pos.line X.env = pure false) :
  PS X (.Assign [.Subscript o i pos'] value pos) (wT td ty tv) := by
 intro pins s σ H D I h
 refine wpAny_Assign_Subscript (thn (hv pins s σ H _ I h) fun r s1 ⟨v, H1, I1, rv, q1⟩ => thn (ho pins s1 σ H1 _ I1 q1) fun u s2 ⟨x, H2, I2, rx, q2⟩ => thn (hi pins s2 σ H2 _ I2 q2) fun iv s3 ⟨y, H3, I3, ry, a, H4, ex, g, q3⟩ => ?_) hs
 subst ex
 obtain rfl : u = Value.ref a := rx
 exact pV hu I3 g ry rv fun s4 I4 => ⟨σ, H4, I4, q3⟩
end
theorem sI {P : Program} {w : World} {H : Hp} (h : Heap) (hb : sysModules < h.objs.size) : bg P w H (h.push { cls := .type "dict", data := .dict #[] }) h.objs.size (.dK []) :=
 ⟨Nat.zero_le _, beq_eq_false_iff_ne.mpr (Ne.symm (Nat.ne_of_lt hb)), [], .nil, Heap.DictOf.new h⟩
def wm : TE := fun _ H Q => ∀ p, H p = none -> Q (.ref p) (upd H p (.dK []))
section
variable {X : Cx} {pos : Pos}
theorem dI : PE X (.Dict [] [] pos) wm := fun pins s σ H Q I h =>
 wpAny_Dict_empty ⟨.ref s.heap.objs.size, _, I.laid (a := s.heap.objs.size) (o := .dK []) (t' := s.toks) (fun _ _ q => Heap.get?_push_of_some _ q) (Nat.le_refl _) (sI s.heap I.big), rfl, h _ (I.hok.fresh (Nat.le_refl _))⟩
end
structure M2 (X : Cx) (o : Expr) (m : Str) (apos : Pos) (e f : Expr) (cpos : Pos) : Prop where
 base : attributeBase o m X.env (eval o X.env) = eval o X.env
 few : ((backTo cpos (starEach [e, f] X.env)).all (fun x => !x.1) && (backToKw cpos (keywordEach [] X.env)).all (fun x => x.1.isSome)
  && decide (([e, f] : List Expr).length + ([] : List Keyword).length + (if ([] : List Keyword).isEmpty then 0 else 1) < 30)) = true
 line : (apos.endLine == cpos.line) = true
 trees : backTo cpos (starEach [e, f] X.env) = [(false, eval e X.env), (false, eval f X.env)]
def IsD (H : Hp) (a : Addr) : Prop := (∃ kvs, Rd H a (.dK kvs)) \/ ∃ kvs, Rd H a (.dT kvs)
theorem wt {X : Cx} {pins : List (Addr × Obj)} {σ : St} {H : Hp} {s : Shared} {a : Addr} (I : Inv X pins σ H s) (d : IsD H a) :
  s.TypeIs (.ref a) "dict" /\ (∀ b, Value.ref a = .ref b -> ∃ ob, s.heap.get? b = some ob /\ ob.dict = none) /\ (a == sysModules) = false := by
 rcases d with ⟨kvs, e⟩ | ⟨kvs, e⟩
 ·obtain ⟨_, hd, vs, _, dd⟩ := jz I.hok e
  refine ⟨dd.typeIs, fun b q => ?_, hd⟩
  cases q
  obtain ⟨ob, _, _, h1, h2, _⟩ := dd
  exact ⟨ob, h1, h2.2.1⟩
 ·obtain ⟨_, hd, xs, _, dd⟩ := jY I.hok e
  refine ⟨dd.typeIs, fun b q => ?_, hd⟩
  cases q
  obtain ⟨ob, _, _, h1, h2, _⟩ := dd
  exact ⟨ob, h1, h2.2.1⟩
section
variable {X : Cx} {pins : List (Addr × Obj)} {σ : St} {H : Hp} {s : Shared} {a : Addr} {y d : V} {u r : Value} {o : Option V} {A : Around} {E : Value -> Shared -> Prop}
theorem vX {Q : Value -> Shared -> Prop} (hu : A.units + 1 < cLine) (I : Inv X pins σ H s) (g : dC H a y o) (ry : aX y u) (rd : aX d r) (h : ∀ w' s', Inv X pins σ H s' -> aX (o.getD d) w' -> Q w' s') :
  wpAny (model X.prog X.w) A (call (.builtin "dict.get") [.ref a, u, r]) Q E s := by
 rcases g with ⟨kvs, k, e, ey, l⟩ | ⟨kvs, k, b, e, ey, eb, l⟩
 ·subst ey
  obtain ⟨z, hd, vs, rel, dd⟩ := jz I.hok e
  refine call_meetsIn PySem.F.slot_dict_get dd.typeIs PySem.F.entry_dict_get (PySem.F.args_dict_get_3 _ _ _) (meets_dict_get_default (be X.prog X.w) a (jw ry) hd r) ⟨_, dd.mapOf, h _ _ (I.tok _) ?_⟩
  rw [l]
  exact (rel.val k).getD rd
 ·subst ey
  cases (show u = Value.ref b from ry)
  obtain ⟨z, hd, xs, rel, dd⟩ := jY I.hok e
  refine call_meetsIn PySem.F.slot_dict_get dd.typeIs PySem.F.entry_dict_get (PySem.F.args_dict_get_3 _ _ _) (meetsH_dict_get_default (tupleKind (be X.prog X.w)) a b hd r) ⟨tupleKind_room_in1 hu, k, xs, jc I.hok eb, dd, h _ _ (I.tok _) ?_⟩
  rw [l]
  exact (rel.val k).getD rd
end
def vD (td ty tx : TE) : TE := fun σ H Q => td σ H fun x H1 => ∃ a, x = .ref a /\ IsD H1 a /\ ty σ H1 fun y H2 => tx σ H2 fun z H3 => ∃ o, dC H3 a y o /\ Q (o.getD z) H3
section
variable {X : Cx} {o e f : Expr} {apos cpos : Pos} {td ty tx : TE}
theorem cD (hu : X.A.units + 1 < cLine) (ho : PE X o td) (he : PE X e ty) (hf : PE X f tx) (m : M2 X o "get" apos e f cpos) : PE X (.Call (.Attribute o "get" apos) [e, f] [] cpos) (vD td ty tx) := by
 intro pins s σ H Q I h
 refine wpAny_Call_method m.base m.few m.line PySem.F.plainAttrs_dict PySem.F.slot_dict_get PySem.F.type_dict_get (thn (ho pins s σ H _ I h) fun u s1 ⟨x, H1, I1, rx, a, ex, d, q1⟩ => ?_)
 subst ex
 obtain rfl : u = Value.ref a := rx
 obtain ⟨t1, t2, _⟩ := wt I1 d
 refine ⟨t1, t2, ?_⟩
 rw [m.trees]
 refine Calls.callWith_builtin rfl (Calls.evalArgs_plain (Calls.spliced_cons (thn (he pins s1 σ H1 _ I1 q1) fun iv s2 ⟨y, H2, I2, ry, q2⟩ =>
  Calls.spliced_cons (thn (hf pins s2 σ H2 _ I2 q2) fun fv s3 ⟨z, H3, I3, rz, ov, g, q3⟩ => Calls.spliced_nil ?_))))
 exact vX hu I3 g ry rz fun w' s4 I4 rw' => ⟨_, H3, I4, rw', q3⟩
end
section
variable {X : Cx} {pins : List (Addr × Obj)} {σ : St} {H : Hp} {s : Shared} {a : Addr} {kvs : List (Key × V)} {A : Around} {E : Value -> Shared -> Prop}
end
section
variable {X : Cx} {pins : List (Addr × Obj)} {σ : St} {H : Hp} {s : Shared} {a : Addr} {y : V} {u : Value} {A : Around} {E : Value -> Shared -> Prop}
end
end L2
namespace HT
open PySem PyProof.Rows
section
open PySem.SeqAt
open PySem.AutoSeq1 (wpAny_loadPart')
open PySem.MeetsSeq PySem.MeetsSeq2 PySem.MeetsSeq3
end
section
variable {prog : Program} {w : World} {A : Around} {E : Value -> Shared -> Prop} {s : Shared}
theorem cat_tup {t b : Addr} {vs ws : List Value} {Q : Value -> Shared -> Prop} (ht : IsTup s.heap t vs.toArray) (hb : IsTup s.heap b ws.toArray) (hv : vs ≠ [])
  (h1 : ws = [] -> Q (.ref t) s) (h2 : ws ≠ [] -> Q (.ref s.heap.objs.size) { s with heap := s.heap.push { cls := .type "tuple", data := .seq (vs ++ ws).toArray } })
  (hsz : vs.length + ws.length <= sizeLine) : wpAny (model prog w) A (binaryOp .Add (.ref t) (.ref b)) Q E s := by
 obtain ⟨⟨cls, dd, data, sl⟩, ho, hc, n, hd⟩ := id ht
 obtain ⟨⟨cls2, dd2, data2, sl2⟩, ho2, hc2, n2, hd2⟩ := id hb
 simp only at hc hd hc2 hd2
 subst hc hd hc2 hd2
 have e : vs.toArray ++ ws.toArray = (vs ++ ws).toArray := by simp
 by_cases hw : ws = []
 ·exact concat_meets ⟨_, ho, rfl⟩ ⟨_, ho2, rfl⟩ noFill_tuple_add seq_tuple_add PySem.F.slot_tuple_add PySem.F.entry_tuple_add (PySem.F.args_tuple_add_2 _ _)
   (tuple_addW1 t b vs.toArray ws.toArray n n2 dd dd2 sl sl2 (by simpa using hv) (by simp [hw])) ⟨ho, ho2, h1 hw⟩
 ·refine concat_meets ⟨_, ho, rfl⟩ ⟨_, ho2, rfl⟩ noFill_tuple_add seq_tuple_add PySem.F.slot_tuple_add PySem.F.entry_tuple_add (PySem.F.args_tuple_add_2 _ _)
   (tuple_addW2 t b vs.toArray ws.toArray n n2 dd dd2 sl sl2 (by simpa using hv) (by simpa using hw) (by rw [List.size_toArray, List.size_toArray]; exact hsz)) ⟨ho, ho2, ?_⟩
  rw [e]
  exact h2 hw
def sIx (n d : Nat) : Option Int -> Nat
 | none => d
 | some v => if v < 0 then (v + (n : Int)).toNat else min v.toNat n
theorem sIx_none (n d : Nat) : sIx n d none = d := rfl
theorem sIx_nat (n d k : Nat) : sIx n d (some (k : Int)) = min k n := by
 show (if (k : Int) < 0 then ((k : Int) + (n : Int)).toNat else min (k : Int).toNat n) = min k n
 rw [if_neg (by omega), Int.toNat_natCast]
theorem vV (n d : Nat) (hd : d <= n) (o : Option Int) : sIx n d o <= n := by
 cases o with
 | none => exact hd
 | some v =>
  show (if v < 0 then (v + (n : Int)).toNat else min v.toNat n) <= n
  by_cases hv : v < 0
  ·rw [if_pos hv]; omega
  ·rw [if_neg hv]; exact Nat.min_le_right _ _
theorem px (v : Int) (n d : Nat) : (if v < 0 then max (v + (n : Int)) 0 else min v (n : Int)) = ((sIx n d (some v) : Nat) : Int) := by
 show (if v < 0 then max (v + (n : Int)) 0 else min v (n : Int)) = (((if v < 0 then (v + (n : Int)).toNat else min v.toNat n) : Nat) : Int)
 by_cases hv : v < 0
 ·simp only [if_pos hv]; omega
 ·simp only [if_neg hv]; omega
theorem oB (lo hi : Option Int) (n : Nat) : Builtin.Slice.sliceAdjust lo hi 1 (n : Int) = (((sIx n 0 lo : Nat) : Int), ((sIx n n hi : Nat) : Int)) := by
 have h1 : ¬ ((1 : Int) < 0) := by omega
 unfold Builtin.Slice.sliceAdjust
 simp only [h1, if_false]
 refine Prod.ext ?_ ?_
 ·cases lo with
  | none => rfl
  | some v => exact px v n 0
 ·cases hi with
  | none => rfl
  | some v => exact px v n n
theorem om (i j : Nat) : Builtin.Slice.slicePlaces (i : Int) (j : Int) 1 = j - i := by
 unfold Builtin.Slice.slicePlaces
 have h1 : (1 : Int) > 0 := by omega
 simp only [h1, if_true, Int.ediv_one]
 split <;> omega
theorem iZ {v : Value} {o : Option Int} {Q : Option Int -> Shared -> Prop} (p : IsPart v o) (h : Q o s) : wpAny (model prog w) A (Builtin.Slice.slicePartIndex v) Q E s := by
 cases p with
 | none => exact slicePart_none h
 | int i t => exact slicePart_int h
theorem sliceApplied_gen {sl : Addr} {vl vu : Value} {lo hi : Option Int} {n : Nat} {Q : Int × Int × Nat -> Shared -> Prop} (hs : s.heap.IsSliceOf sl vl vu .none) (pl : IsPart vl lo) (pu : IsPart vu hi)
  (h : Q (((sIx n 0 lo : Nat) : Int), 1, sIx n n hi - sIx n 0 lo) s) : wpAny (model prog w) A (Builtin.Slice.sliceApplied (.ref sl) (pure (n : Int))) Q E s := by
 obtain ⟨os, hos, hcs, hds⟩ := id hs
 unfold Builtin.Slice.sliceApplied Builtin.Slice.sliceFields
 refine wpAny_bind (wpAny_bind (wpAny_field hos hds (x := vl) rfl (wpAny_bind (wpAny_field hos hds (x := vu) rfl (wpAny_bind (wpAny_field hos hds (x := .none) rfl (wpAny_pure ?_)))))))
 refine wpAny_bind (slicePart_none ?_)
 show wpAny _ _ (if ((1 : Int) == 0) = true then _ else _) _ _ s
 rw [if_neg (by decide)]
 refine wpAny_bind (iZ pl (wpAny_bind (iZ pu (wpAny_bind (wpAny_pure ?_)))))
 show wpAny _ _ (match Builtin.Slice.sliceAdjust lo hi 1 (n : Int) with | (lo, hi) => pure (lo, (1 : Int), Builtin.Slice.slicePlaces lo hi 1)) _ _ s
 rw [oB lo hi n]
 show wpAny _ _ (pure (((sIx n 0 lo : Nat) : Int), (1 : Int), Builtin.Slice.slicePlaces ((sIx n 0 lo : Nat) : Int) ((sIx n n hi : Nat) : Int) 1)) _ _ s
 rw [om]
 exact wpAny_pure h
theorem pick_gen (xs : Array Value) (i k : Nat) : ((List.range k).filterMap fun (m : Nat) => xs[((i : Int) + (m : Int) * 1).toNat]?).toArray = ((xs.toList.drop i).take k).toArray := by
 have e : (fun (m : Nat) => xs[((i : Int) + (m : Int) * 1).toNat]?) = fun m => xs[i + m]? := by
  funext m
  have : ((i : Int) + (m : Int) * 1).toNat = i + m := by omega
  rw [this]
 rw [e]
 have := pick_run xs i k
 rw [List.filterMap_map] at this
 have e2 : ((fun x => xs[x]?) ∘ fun x => i + x) = fun m => xs[i + m]? := rfl
 rw [e2] at this
 rw [this]
theorem getItem_tuple_cut {t sl : Addr} {items : Array Value} {vl vu : Value} {lo hi : Option Int} {Q : Value -> Shared -> Prop} (ht : IsTup s.heap t items) (hs : s.heap.IsSliceOf sl vl vu .none) (pl : IsPart vl lo) (pu : IsPart vu hi)
  (hw : ¬ (sIx items.size 0 lo = 0 /\ sIx items.size items.size hi = items.size))
  (h : Q (.ref s.heap.objs.size) { s with heap := s.heap.push { cls := .type "tuple", data := .seq ((items.toList.drop (sIx items.size 0 lo)).take (sIx items.size items.size hi - sIx items.size 0 lo)).toArray } })
  (hsz : items.size <= sizeLine) : wpAny (model prog w) A (getItem (.ref t) (.ref sl)) Q E s := by
 have htake : sizeOk (.seq ((items.toList.drop (sIx items.size 0 lo)).take (sIx items.size items.size hi - sIx items.size 0 lo)).toArray) := by
  show ((items.toList.drop (sIx items.size 0 lo)).take (sIx items.size items.size hi - sIx items.size 0 lo)).toArray.size <= sizeLine
  rw [List.size_toArray, List.length_take, List.length_drop, Array.length_toList]
  omega
 have hj : sIx items.size items.size hi <= items.size := vV _ _ (Nat.le_refl _) hi
 obtain ⟨os, hos, hcs, hds⟩ := id hs
 have hTs : s.TypeIs (.ref sl) "slice" := ⟨os, hos, hcs⟩
 unfold getItem
 try with_reducible refine wpAny_holding ?_
 first | refine wpAny_bind (wpAny_pure ?_) | skip
 refine wpAny_bind (wpAny_sequenceKey ht.typeIs (by decide) ?_)
 refine wpAny_bind (wpAny_callSpecial?_slot (name := Str.ofString "__getitem__") ht.typeIs PyProof.Rows.slot_tuple_getitem
  (wpAny_call_entry PyProof.Rows.slot_tuple_getitem ht.typeIs entry_tuple_getitem ?_ (args_tuple_getitem _ _)))
 show wpAny _ _ (Builtin.Tuple.tupleItemsOf (.ref t) >>= _) _ _ s
 refine wpAny_bind (tupleItemsOf_ ht ?_)
 refine wpAny_bind (wpAny_typeOf hTs ?_)
 rw [if_pos (by decide)]
 refine wpAny_bind (sliceApplied_gen hs pl pu ?_)
 have hno : ¬ ((((sIx items.size 0 lo : Nat) : Int) == 0 && (1 : Int) == 1 && (sIx items.size items.size hi - sIx items.size 0 lo) == items.size) = true) := by
  intro q
  rw [Bool.and_eq_true, Bool.and_eq_true] at q
  have q1 : ((sIx items.size 0 lo : Nat) : Int) = 0 := eq_of_beq q.1.1
  have q2 : sIx items.size items.size hi - sIx items.size 0 lo = items.size := eq_of_beq q.2
  exact hw ⟨by omega, by omega⟩
 show wpAny _ _ (if (((sIx items.size 0 lo : Nat) : Int) == 0 && (1 : Int) == 1 && (sIx items.size items.size hi - sIx items.size 0 lo) == items.size) = true then _ else _) _ _ s
 rw [if_neg hno, pick_gen]
 first
  | exact wpAny_bind (m := Builtin.Tuple.tupleExact _) (wpAny_newObj_type (wpAny_pure ⟨_, rfl, wpAny_pure h⟩) htake)
  | exact wpAny_bind (m := Builtin.Tuple.tupleExact _) (wpAny_newObj_type (wpAny_bind (wpAny_pure (wpAny_pure ⟨_, rfl, wpAny_pure h⟩))) htake)
  | exact wpAny_bind (wpAny_bind (m := Builtin.Tuple.tupleExact _) (wpAny_newObj_type (wpAny_pure (wpAny_pure ⟨_, rfl, wpAny_pure h⟩)) htake))
  | exact wpAny_bind (wpAny_bind (m := Builtin.Tuple.tupleExact _) (wpAny_newObj_type (wpAny_pure ⟨_, rfl, wpAny_pure h⟩) htake))
end
end HT
namespace L2
open PySem PySem.Spec PyProof.Rows
abbrev TO := St -> Hp -> (Option Int -> Hp -> Prop) -> Prop
def PO (X : Cx) (e : Option Expr) (t : TO) : Prop :=
 ∀ (pins : List (Addr × Obj)) (s : Shared) (σ : St) (H : Hp) (Q : Option Int -> Hp -> Prop), Inv X pins σ H s -> t σ H Q ->
  wpAny (model X.prog X.w) X.A (evalPart e X.env) (fun u s' => ∃ o H', Inv X pins σ H' s' /\ IsPart u o /\ Q o H') X.xe s
def dQ : TO := fun _ H Q => Q none H
def rY (t : TE) : TO := fun σ H Q => t σ H fun x H1 => ∃ i, x = .int i /\ Q (some i) H1
theorem nS {ns : List Int} : ∀ {us : List Value}, aU (ns.map V.int) us -> IntsAre us ns := by
 induction ns with
 | nil => intro us r; rw [List.map_nil] at r; cases r; exact .nil
 | cons n ns ih =>
  intro us r
  rw [List.map_cons] at r
  cases r with
  | cons r1 r2 =>
   obtain ⟨t, e⟩ := r1
   subst e
   exact .cons n t (ih r2)
section
variable {X : Cx} {e : Expr} {te : TE} {lo hi : Option Expr} {tl th : TO} {pos p2 : Pos}
theorem dh : PO X none dQ := by
 intro pins s σ H Q I h
 rw [evalPart_none]
 exact wpAny_pure ⟨none, H, I, .none, h⟩
theorem bM (h : PE X e te) : PO X (some e) (rY te) := by
 intro pins s σ H Q I hw
 rw [evalPart_some]
 refine thn (h pins s σ H _ I hw) fun u s1 ⟨x, H1, I1, r1, q1⟩ => ?_
 obtain ⟨i, rfl, q⟩ := q1
 obtain ⟨t, rfl⟩ := r1
 exact ⟨some i, H1, I1, .int i t, q⟩
def SlR (X : Cx) (r : V -> Option Int -> Option Int -> Hp -> VK -> Prop) : Prop :=
 ∀ (pins : List (Addr × Obj)) (s : Shared) (σ : St) (H : Hp) (x : V) (v vl vu : Value) (lo hi : Option Int) (sl : Addr) (Q : VK), Inv X pins σ H s -> aX x v -> s.heap.IsSliceOf sl vl vu .none -> IsPart vl lo -> IsPart vu hi -> r x lo hi H Q ->
  ∃ T id, typeLookup (.type T) "__getitem__" = pure (some (.builtin id)) /\ s.TypeIs v T /\ wpAny (model X.prog X.w) X.A (getItem v (.ref sl)) (EP X pins σ Q) X.xe s
def tSl (r : V -> Option Int -> Option Int -> Hp -> VK -> Prop) (te : TE) (tl th : TO) : TE := fun σ H Q => te σ H fun x H1 => tl σ H1 fun l H2 => th σ H2 fun u H3 => r x l u H3 Q
theorem bY {r : V -> Option Int -> Option Int -> Hp -> VK -> Prop} (hr : SlR X r) (he : PE X e te) (hl : PO X lo tl) (hu : PO X hi th) : PE X (.Subscript e (.Slice lo hi none p2) pos) (tSl r te tl th) := by
 intro pins s σ H Q I h
 refine Subscript_ (thn (he pins s σ H _ I h) fun v s1 ⟨x, H1, I1, r1, q1⟩ => ?_)
 refine wpAny_Slice (thn (hl pins s1 σ H1 _ I1 q1) fun vl s2 ⟨l, H2, I2, pl, q2⟩ => thn (hu pins s2 σ H2 _ I2 q2) fun vu s3 ⟨u, H3, I3, pu, q3⟩ => ?_)
 rw [evalPart_none]
 refine wpAny_pure ?_
 have I4 : Inv X pins σ H3 { s3 with heap := s3.heap.push { cls := .type "slice", data := .fields #[vl, vu, .none] } } := I3.kept (t' := s3.toks) fun b ob q => Heap.get?_push_of_some _ q
 obtain ⟨T, id, hT, ht, hg⟩ := hr pins { s3 with heap := s3.heap.push { cls := .type "slice", data := .fields #[vl, vu, .none] } } σ H3 x v vl vu l u s3.heap.objs.size Q I4 r1 (Heap.IsSliceOf.new ..) pl pu q3
 show wpAny (model X.prog X.w) X.A (subscriptTail e (.Slice lo hi none p2) v (.ref s3.heap.objs.size)) (EP X pins σ Q) X.xe { s3 with heap := s3.heap.push { cls := .type "slice", data := .fields #[vl, vu, .none] } }
 exact tail_any (ops := [.ref s3.heap.objs.size, v]) ht hT hg (by with_unfolding_all rfl)
def cE (xs : List V) (lo hi : Option Int) : List V := (xs.drop (HT.sIx xs.length 0 lo)).take (HT.sIx xs.length xs.length hi - HT.sIx xs.length 0 lo)
theorem eU (xs : List V) (lo hi : Option Int) : (cE xs lo hi).length <= xs.length := by
 unfold cE
 rw [List.length_take, List.length_drop]
 omega
def xu (K : PySem.W.Frag) : V -> Option Int -> Option Int -> Hp -> VK -> Prop := fun x lo hi H Q => ∃ a xs, x = .ref a /\ SqT K H a xs /\
 ¬ (HT.sIx xs.length 0 lo = 0 /\ HT.sIx xs.length xs.length hi = xs.length) /\ ∀ p, H p = none -> Q (.ref p) (upd H p (.tup (cE xs lo hi)))
theorem vT : SlR X (xu X.K) := by
 intro pins s σ H x v vl vu lo hi sl Q I rx hs pl pu h
 obtain ⟨a, xs, rfl, hx, hw, q⟩ := h
 cases rx
 obtain ⟨its, r, ht, hz⟩ := I.tuple hx
 have hlen : its.toArray.size = xs.length := by rw [List.size_toArray]; exact r.length.symm
 refine ⟨"tuple", _, PyProof.Rows.slot_tuple_getitem.lookup, ht.typeIs, ?_⟩
 refine HT.getItem_tuple_cut ht hs pl pu (by rw [hlen]; exact hw) ?_ (by rw [hlen]; exact hz)
 rw [hlen]
 refine ⟨.ref s.heap.objs.size, _, I.laid (t' := s.toks) (o := .tup (cE xs lo hi)) (fun b ob q => Heap.get?_push_of_some _ q) (Nat.le_refl _) ?_, rfl, q _ (I.hok.fresh (Nat.le_refl _))⟩
 exact ⟨Nat.le_trans (eU xs lo hi) hz, _, (r.drop (HT.sIx xs.length 0 lo)).take (HT.sIx xs.length xs.length hi - HT.sIx xs.length 0 lo), IsTup.new _ _, NoD.new _ rfl⟩
def wM (K : PySem.W.Frag) : R2 := fun x y H Q => ∃ a b xs ys, x = .ref a /\ y = .ref b /\ SqT K H a xs /\ SqT K H b ys /\ xs ≠ [] /\ xs.length + ys.length <= sizeLine /\
 (ys = [] -> Q (.ref a) H) /\ (ys ≠ [] -> ∀ p, H p = none -> Q (.ref p) (upd H p (.tup (xs ++ ys))))
theorem aU.nil_iff {xs : List V} {us : List Value} (r : aU xs us) : us = [] ↔ xs = [] := by
 cases r with
 | nil => simp
 | cons _ _ => simp
theorem uR : OpR X (binaryOp .Add) (wM X.K) := by
 intro pins s σ H x y v u Q I rx ry h
 obtain ⟨a, b, xs, ys, rfl, rfl, ha, hb, hx, hz, q1, q2⟩ := h
 cases rx
 cases ry
 obtain ⟨its, r1, p1, _⟩ := I.tuple ha
 obtain ⟨its2, r2, p2, _⟩ := I.tuple hb
 refine HT.cat_tup p1 p2 (fun z => hx (r1.nil_iff.mp z)) (fun z => ⟨.ref a, H, I, rfl, q1 (r2.nil_iff.mp z)⟩) (fun z => ?_) (by rw [<- r1.length, <- r2.length]; exact hz)
 refine ⟨.ref s.heap.objs.size, _, I.laid (t' := s.toks) (o := .tup (xs ++ ys)) (fun b ob q => Heap.get?_push_of_some _ q) (Nat.le_refl _) ?_, rfl, q2 (fun w => z (r2.nil_iff.mpr w)) _ (I.hok.fresh (Nat.le_refl _))⟩
 exact ⟨by rw [List.length_append]; exact hz, _, r1.append r2, IsTup.new _ _, NoD.new _ rfl⟩
end
def ixN (n : Nat) (i : Int) : Option Nat := if 0 <= i then (if i < n then some i.toNat else none) else if -(n : Int) <= i then some (i + n).toNat else none
def atI {α : Type} (xs : List α) (i : Int) : Option α := (ixN xs.length i).bind fun j => xs[j]?
theorem pN {n : Nat} {i : Int} {j : Nat} (h : ixN n i = some j) : seqIndex? i n = some j /\ j < n /\ -(n : Int) <= i /\ i < n := by
 unfold ixN at h
 by_cases h0 : 0 <= i
 ·rw [if_pos h0] at h
  by_cases h1 : i < n
  ·rw [if_pos h1] at h
   have e : i.toNat = j := Option.some.inj h
   exact ⟨by rw [seqIndex_of h0 h1, e], by omega, by omega, h1⟩
  ·rw [if_neg h1] at h; cases h
 ·rw [if_neg h0] at h
  by_cases h1 : -(n : Int) <= i
  ·rw [if_pos h1] at h
   have e : (i + n).toNat = j := Option.some.inj h
   exact ⟨by rw [seqIndex_neg (by omega) h1, e], by omega, h1, by omega⟩
  ·rw [if_neg h1] at h; cases h
theorem kT {α : Type} {xs : List α} {i : Int} {v : α} (h : atI xs i = some v) : ∃ j, seqIndex? i xs.length = some j /\ xs[j]? = some v /\ j < xs.length /\ -(xs.length : Int) <= i /\ i < xs.length := by
 unfold atI at h
 cases e : ixN xs.length i with
 | none => rw [e] at h; cases h
 | some j =>
  rw [e] at h
  obtain ⟨h1, h2, h3, h4⟩ := pN e
  exact ⟨j, h1, h, h2, h3, h4⟩
theorem ah {α : Type} {xs : List α} {j : Nat} {v : α} (h : xs[j]? = some v) : atI xs (j : Int) = some v := by
 have hj : j < xs.length := (List.getElem?_eq_some_iff.mp h).1
 have e : ixN xs.length (j : Int) = some j := by
  unfold ixN
  rw [if_pos (by omega), if_pos (by omega)]; simp
 unfold atI; rw [e]; exact h
theorem tW {α : Type} (xs : List α) (v : α) : atI (xs ++ [v]) (-1) = some v := by
 have hl : (xs ++ [v]).length = xs.length + 1 := by simp
 have e : ixN (xs ++ [v]).length (-1) = some xs.length := by
  unfold ixN
  rw [hl, if_neg (by decide), if_pos (by omega)]
  congr 1
  omega
 unfold atI
 rw [e]
 show (xs ++ [v])[xs.length]? = some v
 simp
def uv (b : Expr) : Prop := ∀ o i, subscripted b false o i = operate [o, i] (getItem o i)
def IxR (X : Cx) (r : R2) : Prop :=
 ∀ (value slice : Expr) (pins : List (Addr × Obj)) (s : Shared) (σ : St) (H : Hp) (x y : V) (v u : Value) (Q : VK), Inv X pins σ H s -> aX x v -> aX y u -> r x y H Q ->
  subscripted slice false v u = operate [v, u] (getItem v u) -> wpAny (model X.prog X.w) X.A (subscriptTail value slice v u) (EP X pins σ Q) X.xe s
def MtR (X : Cx) (id : String) (r : V -> List V -> Hp -> VK -> Prop) : Prop :=
 ∀ (pins : List (Addr × Obj)) (s : Shared) (σ : St) (H : Hp) (x : V) (xs : List V) (v : Value) (us : List Value) (Q : VK), Inv X pins σ H s -> aX x v -> aU xs us -> r x xs H Q ->
  wpAny (model X.prog X.w) X.A (call (.builtin id) (v :: us)) (EP X pins σ Q) X.xe s
section
variable {X : Cx} {a b : Expr} {ta tb : TE} {pos : Pos}
theorem ar {r : R2} (hr : IxR X r) (ha : PE X a ta) (hb : PE X b tb) (hs : uv b) : PE X (.Subscript a b pos) (tOp r ta tb) := by
 intro pins s σ H Q I h
 exact Subscript_ (vQ ha hb I h fun v u s2 x y H2 I2 rx ry q => hr a b pins s2 σ H2 x y v u Q I2 rx ry q (hs _ _))
def wz (K : PySem.W.Frag) : R2 := fun x y H Q => ∃ p xs i v, x = .ref p /\ y = .int i /\ SqL K H p xs /\ atI xs i = some v /\ Q v H
def wV (K : PySem.W.Frag) : R2 := fun x y H Q => ∃ p xs i v, x = .ref p /\ y = .int i /\ SqT K H p xs /\ atI xs i = some v /\ Q v H
def xA : R2 := fun x y H Q => ∃ z i c, x = .str z /\ y = .int i /\ z.length <= sizeLine /\ atI z.cps.toList i = some c /\ Q (.str ⟨#[c]⟩) H
theorem bJ : IxR X (wz X.K) := by
 intro value slice pins s σ H x y v u Q I rx ry h hs
 obtain ⟨p, xs, i, z, rfl, rfl, hq, he, q⟩ := h
 cases rx
 obtain ⟨t, rfl⟩ := ry
 obtain ⟨its, r, pl, hz⟩ := I.list hq
 obtain ⟨j, h1, h2, h3, h4, h5⟩ := kT he
 obtain ⟨w, ew, rw'⟩ := r.get h2
 have hl := r.length
 have hn := gy
 have fin : EP X pins σ Q w s := ⟨z, H, I, rw', q⟩
 by_cases h0 : 0 <= i
 ·have hj : i.toNat = j := by
   rw [seqIndex_of h0 h5] at h1
   exact Option.some.inj h1
  exact item_listR pl.isList h0 (by omega) (by rw [hj]; simpa using ew) fin hs
 ·have hj : (i + (its.toArray.size : Int)).toNat = j := by
   rw [seqIndex_neg (by omega) h4] at h1
   rw [List.size_toArray, <- hl]
   exact Option.some.inj h1
  exact subscriptTail_builtinR (x := w) pl.isList.typeIs slot_list_getitem.lookup
   (wpAny_getItem_list_neg (Q := fun r s' => r = w /\ EP X pins σ Q r s') pl.isList (by omega) (by rw [List.size_toArray] <;> omega) (by omega) (by rw [hj]; simpa using ew) ⟨rfl, fin⟩) hs
theorem ap : IxR X (wV X.K) := by
 intro value slice pins s σ H x y v u Q I rx ry h hs
 obtain ⟨p, xs, i, z, rfl, rfl, hq, he, q⟩ := h
 cases rx
 obtain ⟨t, rfl⟩ := ry
 obtain ⟨its, r, pl, hz⟩ := I.tuple hq
 obtain ⟨j, h1, h2, h3, h4, h5⟩ := kT he
 obtain ⟨w, ew, rw'⟩ := r.get h2
 have hl := r.length
 have hn := gy
 have fin : EP X pins σ Q w s := ⟨z, H, I, rw', q⟩
 exact subscriptTail_builtinR (x := w) pl.typeIs slot_tuple_getitem.lookup
  (getItem_tuple (j := j) (Q := fun r s' => r = w /\ EP X pins σ Q r s') pl (by omega) (by omega) (by rw [List.size_toArray, <- hl]; exact h1) (by simpa using ew) ⟨rfl, fin⟩) hs
theorem ww : IxR X xA := by
 intro value slice pins s σ H x y v u Q I rx ry h hs
 obtain ⟨z, i, c, rfl, rfl, hz, he, q⟩ := h
 obtain ⟨t, rfl⟩ := rx
 obtain ⟨t', rfl⟩ := ry
 obtain ⟨j, h1, h2, h3, h4, h5⟩ := kT he
 have hl : z.cps.toList.length = z.length := by simp [Str.length]
 rw [hl] at h1 h4 h5
 have hn := gy
 exact tail_any (typeIs_str s z t) slot_str_getitem.lookup (getItem_str (c := c) (by
  have e1 : decide (i < -(2 ^ 63 : Int)) = false := decide_eq_false (by omega)
  have e2 : decide (i >= 2 ^ 63) = false := decide_eq_false (by omega)
  rw [e1, e2, Bool.or_false]) (by rw [h1]; simpa using h2) ⟨.str ⟨#[c]⟩, H, I.tok _, ⟨_, rfl⟩, q⟩) hs
theorem nU (its : List Value) (n j : Nat) (u : Value) : Obj.mapSeq (·.setIfInBounds j u) { cls := .type "list", data := .seq its.toArray n } = { cls := .type "list", data := .seq (its.set j u).toArray n } := by
 simp [Obj.mapSeq]
theorem Inv.lst {pins : List (Addr × Obj)} {σ : St} {H : Hp} {s : Shared} {p : Addr} {xs : List V} (I : Inv X pins σ H s) (h : H p = some (.lst xs)) :
  ∃ (its : List Value) (n : Nat), aU xs its /\ s.heap.get? p = some { cls := .type "list", data := .seq its.toArray n } /\ xs.length <= sizeLine := by
 obtain ⟨z, its, n, r, e⟩ := I.hok p _ h
 exact ⟨its, n, r, e, z⟩
theorem Inv.lstUpd {pins : List (Addr × Obj)} {σ : St} {H : Hp} {s : Shared} {p : Addr} {xs ys : List V} {its its' : List Value} {n n' : Nat} {f : Obj -> Obj} (I : Inv X pins σ H s) (h : H p = some (.lst xs))
  (ho : s.heap.get? p = some { cls := .type "list", data := .seq its.toArray n }) (hf : f { cls := .type "list", data := .seq its.toArray n } = { cls := .type "list", data := .seq its'.toArray n' }) (r : aU ys its') (hz : ys.length <= sizeLine) (t : Nat) :
  Inv X pins σ (upd H p (.lst ys)) { s with heap := s.heap.update p f, toks := t } := by
 have e : (s.heap.update p f).get? p = some { cls := .type "list", data := .seq its'.toArray n' } := by
  rw [Heap.get?_update_self f ho (by rw [hf] <;> rfl), hf]
 refine I.write (x := p) (e := p) (by rw [h]; trivial) (.inl rfl) (fun b u hb q => (Heap.get?_update_other _ _ (Ne.symm hb)).trans q) ⟨_, e⟩ ?_
 exact ⟨hz, its', n', r, e⟩
def wR : V -> V -> V -> Hp -> (Hp -> Prop) -> Prop := fun o i v H Q => ∃ p xs k j, o = .ref p /\ i = .int k /\ H p = some (.lst xs) /\ ixN xs.length k = some j /\ Q (upd H p (.lst (xs.set j v)))
theorem rJ : wI X wR := by
 intro pins s σ H o i v ov iv u Q I ro ri rv h
 obtain ⟨p, xs, k, j, rfl, rfl, hp, hj, q⟩ := h
 cases ro
 obtain ⟨t, rfl⟩ := ri
 obtain ⟨its, n, r, ho, hz⟩ := I.lst hp
 obtain ⟨h1, h2, h3, h4⟩ := pN hj
 have hl := r.length
 have hn := gy
 have I' : Inv X pins σ (upd H p (.lst (xs.set j v))) { s with heap := s.heap.update p (Obj.mapSeq (·.setIfInBounds j u)) } :=
  I.lstUpd hp ho (nU its n j u) (r.set rv j) (by rw [List.length_set]; exact hz) s.toks
 by_cases h0 : 0 <= k
 ·have hk : k.toNat = j := by
   rw [seqIndex_of h0 h4] at h1
   exact Option.some.inj h1
  exact PySem.W.ki_setAt ho h0 (by omega) (by rw [List.size_toArray, <- hl]; exact h4) (by rw [hk]; exact ⟨_, I', q⟩)
 ·have hk : (k + (its.toArray.size : Int)).toNat = j := by
   rw [seqIndex_neg (by omega) h3] at h1
   rw [List.size_toArray, <- hl]
   exact Option.some.inj h1
  exact PySem.W.ki_setBack ho (by omega) (by rw [List.size_toArray, <- hl]; exact h3) (by omega) (by rw [hk]; exact ⟨_, I', q⟩)
theorem lO (lo hi : Option Int) (n : Nat) : (sliceBounds lo hi none n).1 = ((HT.sIx n 0 lo : Nat) : Int) /\ (sliceBounds lo hi none n).2.1 = ((HT.sIx n n hi : Nat) : Int) /\ (sliceBounds lo hi none n).2.2 = 1 := by
 refine ⟨?_, ?_, rfl⟩
 ·cases lo with
  | none => simp [sliceBounds, HT.sIx]
  | some i =>
   simp only [sliceBounds, HT.sIx, Option.getD_none, show (1 : Int) > 0 by decide, if_true]
   by_cases h : i < 0
   ·simp only [h, if_true] <;> omega
   ·simp only [h, if_false] <;> omega
 ·cases hi with
  | none => simp [sliceBounds, HT.sIx]
  | some i =>
   simp only [sliceBounds, HT.sIx, Option.getD_none, show (1 : Int) > 0 by decide, if_true]
   by_cases h : i < 0
   ·simp only [h, if_true] <;> omega
   ·simp only [h, if_false] <;> omega
theorem jr (its : List Value) (lo hi : Option Int) : slicePick its.toArray lo hi none = ((its.drop (HT.sIx its.length 0 lo)).take (HT.sIx its.length its.length hi - HT.sIx its.length 0 lo)).toArray := by
 obtain ⟨h1, h2, h3⟩ := lO lo hi its.toArray.size
 unfold slicePick
 rw [h1, h2, h3]
 simp only [sliceRange_one, pick_run, List.size_toArray] <;> rfl
def wP (K : PySem.W.Frag) : V -> Option Int -> Option Int -> Hp -> VK -> Prop := fun x lo hi H Q => ∃ a xs, x = .ref a /\ SqL K H a xs /\ ∀ p, H p = none -> Q (.ref p) (upd H p (.lst (cE xs lo hi)))
theorem fi : SlR X (wP X.K) := by
 intro pins s σ H x v vl vu lo hi sl Q I rx hs pl pu h
 obtain ⟨a, xs, rfl, hx, q⟩ := h
 cases rx
 obtain ⟨its, r, ht, hz⟩ := I.list hx
 have hlen := r.length
 refine ⟨"list", _, slot_list_getitem.lookup, ht.isList.typeIs, ?_⟩
 refine wpAny_getItem_list_slice ht.isList hs pl pu .none (by simp) ?_ (by rw [List.size_toArray] <;> omega)
 rw [jr, <- hlen]
 refine ⟨.ref s.heap.objs.size, _, I.laid (t' := s.toks) (o := .lst (cE xs lo hi)) (fun b ob q => Heap.get?_push_of_some _ q) (Nat.le_refl _) ?_, rfl, q _ (I.hok.fresh (Nat.le_refl _))⟩
 exact ⟨Nat.le_trans (eU xs lo hi) hz, _, 0, (r.drop (HT.sIx xs.length 0 lo)).take (HT.sIx xs.length xs.length hi - HT.sIx xs.length 0 lo), Heap.get?_push_size _ rfl⟩
def gm : V -> Bool
 | .non => true
 | .bl _ => true
 | .int _ => true
 | .str _ => true
 | _ => false
def eqV : V -> V -> Bool
 | .non, .non => true
 | .bl a, .bl b => a == b
 | .bl a, .int b => (if a then 1 else 0) == b
 | .int a, .bl b => a == (if b then 1 else 0)
 | .int a, .int b => a == b
 | .str a, .str b => a == b
 | _, _ => false
theorem vW {A : Around} {s : Shared} {y x : V} {u v : Value} (ry : aX y u) (rx : aX x v) (fy : gm y = true) (fx : gm x = true) : SeqAt.EqAt A s u v (eqV y x) := by
 cases y with
 | non =>
  cases ry
  cases x with
  | non => cases rx; exact SeqAt.EqAt.same _
  | bl b => cases rx; exact SeqAt.EqAt.none_bool b
  | int b => obtain ⟨t, rfl⟩ := rx; exact SeqAt.EqAt.none_int b t
  | str b => obtain ⟨t, rfl⟩ := rx; exact SeqAt.EqAt.none_str b t
  | _ => exact absurd (show false = true from fx) Bool.false_ne_true
 | bl a =>
  cases ry
  cases x with
  | non => cases rx; exact SeqAt.EqAt.bool_none a
  | bl b => cases rx; exact SeqAt.EqAt.bool_bool a b
  | int b => obtain ⟨t, rfl⟩ := rx; exact SeqAt.EqAt.bool_int a b t
  | str b => obtain ⟨t, rfl⟩ := rx; exact SeqAt.EqAt.bool_str a b t
  | _ => exact absurd (show false = true from fx) Bool.false_ne_true
 | int a =>
  obtain ⟨t', rfl⟩ := ry
  cases x with
  | non => cases rx; exact SeqAt.EqAt.int_none a t'
  | bl b => cases rx; exact SeqAt.EqAt.int_bool a t' b
  | int b => obtain ⟨t, rfl⟩ := rx; exact SeqAt.EqAt.int_int a t' b t
  | str b => obtain ⟨t, rfl⟩ := rx; exact SeqAt.EqAt.int_str a t' b t
  | _ => exact absurd (show false = true from fx) Bool.false_ne_true
 | str a =>
  obtain ⟨t', rfl⟩ := ry
  cases x with
  | non => cases rx; exact SeqAt.EqAt.str_none a t'
  | bl b => cases rx; exact SeqAt.EqAt.str_bool a t' b
  | int b => obtain ⟨t, rfl⟩ := rx; exact SeqAt.EqAt.str_int a t' b t
  | str b => obtain ⟨t, rfl⟩ := rx; exact SeqAt.EqAt.str_str a t' b t
  | _ => exact absurd (show false = true from fx) Bool.false_ne_true
 | _ => exact absurd (show false = true from fy) Bool.false_ne_true
def eqU (x : V) (u : Value) : Bool := match u with
 | .none => eqV .non x
 | .bool b => eqV (.bl b) x
 | .int i _ => eqV (.int i) x
 | .str z _ => eqV (.str z) x
 | _ => false
theorem tL {x y : V} {u : Value} (r : aX y u) (f : gm y = true) : eqU x u = eqV y x := by
 cases y with
 | non => cases r; rfl
 | bl b => cases r; rfl
 | int i => obtain ⟨t, rfl⟩ := r; rfl
 | str z => obtain ⟨t, rfl⟩ := r; rfl
 | _ => exact absurd (show false = true from f) Bool.false_ne_true
theorem lP {x : V} : ∀ {xs : List V} {us : List Value}, aU xs us -> xs.all gm = true -> us.any (eqU x) = xs.any fun y => eqV y x
 | _, _, .nil, _ => rfl
 | y :: xs, u :: us, .cons r t, f => by
  rw [List.all_cons, Bool.and_eq_true] at f
  rw [List.any_cons, List.any_cons, tL r f.1, lP t f.2]
theorem iL {A : Around} {s : Shared} {x : V} {v : Value} (rx : aX x v) (fx : gm x = true) : ∀ {xs : List V} {us : List Value}, aU xs us -> xs.all gm = true -> ∀ u ∈ us, SeqAt.EqAt A s u v (eqU x u)
 | _, _, .nil, _ => fun u hu => by cases hu
 | y :: xs, u :: us, .cons r t, f => fun u' hu => by
  rw [List.all_cons, Bool.and_eq_true] at f
  rcases List.mem_cons.mp hu with rfl | hu
  ·rw [tL r f.1]; exact vW r rx f.1 fx
  ·exact iL rx fx t f.2 u' hu
def inV (x : V) (xs : List V) : Bool := xs.any fun y => eqV y x
def rIn (K : PySem.W.Frag) (neg : Bool) : R2 := fun x y H Q => ∃ p xs, y = .ref p /\ (SqL K H p xs \/ SqT K H p xs) /\ gm x = true /\ xs.all gm = true /\ Q (.bl (if neg then !inV x xs else inV x xs)) H
theorem kQ : OpR X (compareOp .NotIn) (rIn X.K true) := by
 intro pins s σ H x y v u Q I rx ry h
 obtain ⟨p, xs, rfl, hq, fx, fs, q⟩ := h
 cases ry
 rcases hq with hq | hq
 ·obtain ⟨its, r, pl, hz⟩ := I.list hq
  refine SeqAt.notIn_listAt (eqU x) pl.isList (fun w hw => iL rx fx r fs w (by simpa using hw)) ⟨.bl _, H, I, rfl, ?_⟩
  rw [show its.toArray.any (eqU x) = its.any (eqU x) by simp, lP r fs]
  exact q
 ·obtain ⟨its, r, pl, hz⟩ := I.tuple hq
  refine SeqAt.notIn_tupleAt (eqU x) pl (fun w hw => iL rx fx r fs w (by simpa using hw)) ⟨.bl _, H, I, rfl, ?_⟩
  rw [show its.toArray.any (eqU x) = its.any (eqU x) by simp, lP r fs]
  exact q
theorem bz : de X (.builtin "len") (fun xs H Q => ∃ p ys, xs = [.ref p] /\ (SqL X.K H p ys \/ SqT X.K H p ys) /\ Q (.int ys.length) H) := by
 intro pins s σ H xs us Q I r h
 obtain ⟨p, ys, rfl, hq, q⟩ := h
 obtain ⟨u, rfl, rx⟩ := fz r
 cases rx
 have hn := gy
 rcases hq with hq | hq
 ·obtain ⟨its, r', pl, hz⟩ := I.list hq
  have hlen := r'.length
  exact Calls.call_len_list pl.isList (by simp only [List.size_toArray] <;> omega) ⟨.int ys.length, H, I.tok _, ⟨s.toks + 1, by rw [List.size_toArray, hlen]⟩, q⟩
 ·obtain ⟨its, r', pl, hz⟩ := I.tuple hq
  have hlen := r'.length
  exact len_tuple pl (by simp only [List.size_toArray] <;> omega) ⟨.int ys.length, H, I.tok _, ⟨s.toks + 1, by rw [List.size_toArray, hlen]⟩, q⟩
theorem fO : de X (.type "list") (fun xs H Q => ∃ p ys, xs = [.ref p] /\ (SqL X.K H p ys \/ SqT X.K H p ys) /\ ∀ l, H l = none -> Q (.ref l) (upd H l (.lst ys))) := by
 intro pins s σ H xs us Q I r h
 obtain ⟨p, ys, rfl, hq, q⟩ := h
 obtain ⟨u, rfl, rx⟩ := fz r
 cases rx
 have fin : ∀ (its : List Value), aU ys its -> ys.length <= sizeLine -> ∀ (h' : Heap) (c' : Nat), (∀ b o', s.heap.get? b = some o' -> h'.get? b = some o') ->
   h'.get? s.heap.objs.size = some { cls := .type "list", dict := none, data := .seq its.toArray c', slots := #[] } -> EP X pins σ Q (.ref s.heap.objs.size) { s with heap := h' } := fun its r' hz h' c' kp e =>
  ⟨.ref s.heap.objs.size, _, I.laid (t' := s.toks) kp (Nat.le_refl _) (show bg X.prog X.w _ h' _ (.lst ys) from ⟨hz, its, c', r', e⟩), rfl, q _ (I.hok.fresh (Nat.le_refl _))⟩
 rcases hq with hq | hq
 ·obtain ⟨its, r', pl, hz⟩ := I.list hq
  have hlen := r'.length
  obtain ⟨o, ho, hc, n, hd⟩ := pl.isList
  exact call_list_seq p (.inl rfl) ho hc hd (fun h' c' kp e => fin its r' hz h' c' kp e) (by simp only [List.size_toArray] <;> omega)
 ·obtain ⟨its, r', pl, hz⟩ := I.tuple hq
  have hlen := r'.length
  obtain ⟨o, ho, hc, n, hd⟩ := pl
  exact call_list_seq p (.inr rfl) ho hc hd (fun h' c' kp e => fin its r' hz h' c' kp e) (by simp only [List.size_toArray] <;> omega)
theorem ba : de X (.type "tuple") (fun xs H Q => ∃ p ys, xs = [.ref p] /\ ((SqL X.K H p ys /\ ∀ l, H l = none -> Q (.ref l) (upd H l (.tup ys))) \/ (SqT X.K H p ys /\ Q (.ref p) H))) := by
 intro pins s σ H xs us Q I r h
 obtain ⟨p, ys, rfl, h⟩ := h
 obtain ⟨u, rfl, rx⟩ := fz r
 cases rx
 rcases h with ⟨hq, q⟩ | ⟨hq, q⟩
 ·obtain ⟨its, r', pl, hz⟩ := I.list hq
  have hlen := r'.length
  refine call_tuple_list pl.isList (fun h' kp => ?_) (by simp only [List.size_toArray] <;> omega)
  have I1 : Inv X pins σ H { s with heap := h' } := I.kept (t' := s.toks) kp
  have I2 : Inv X pins σ (upd H h'.objs.size (.tup ys)) { s with heap := h'.push { cls := .type "tuple", data := .seq its.toArray } } :=
   I1.laid (t' := s.toks) (fun b o e => Heap.get?_push_of_some _ e) (Nat.le_refl _) (show bg X.prog X.w _ _ _ (.tup ys) from ⟨hz, its, r', IsTup.new _ _, NoD.new _ rfl⟩)
  exact ⟨.ref h'.objs.size, _, I2, rfl, q _ (I1.hok.fresh (Nat.le_refl _))⟩
 ·obtain ⟨its, r', pl, hz⟩ := I.tuple hq
  exact call_tuple_same pl ⟨.ref p, H, I, rfl, q⟩
def tyV (K : PySem.W.Frag) (T : String) (x : V) (H : Hp) : Prop := match x with
 | .str _ => T = "str"
 | .int _ => T = "int"
 | .ref p => (T = "list" /\ ∃ xs, SqL K H p xs) \/ (T = "tuple" /\ ∃ o, K.lookup p = some o /\ o.cls = .type "tuple" /\ o.dict = none) \/
   (T = "dict" /\ ((∃ kvs, H p = some (.dK kvs)) \/ ∃ kvs, H p = some (.dT kvs))) \/ (T = "set" /\ ∃ S n, H p = some (.set S n))
 | _ => False
theorem rX {pins : List (Addr × Obj)} {σ : St} {H : Hp} {s : Shared} {T : String} {x : V} {v : Value} (I : Inv X pins σ H s) (r : aX x v) (ty : tyV X.K T x H) :
  s.TypeIs v T /\ ∀ a, v = .ref a -> ∃ ob, s.heap.get? a = some ob /\ ob.dict = none := by
 cases x with
 | str z =>
  obtain ⟨t, rfl⟩ := r
  cases (show T = "str" from ty)
  exact ⟨typeIs_str s z t, fun _ e => nomatch e⟩
 | int i =>
  obtain ⟨t, rfl⟩ := r
  cases (show T = "int" from ty)
  exact ⟨typeIs_int s i t, fun _ e => nomatch e⟩
 | ref p =>
  cases r
  rcases ty with ⟨rfl, xs, hq⟩ | ⟨rfl, o, hk, hc, hd⟩ | ⟨rfl, hk⟩ | ⟨rfl, S, n, hk⟩
  ·obtain ⟨its, _, pl, _⟩ := I.list hq
   refine ⟨pl.isList.typeIs, fun a e => ?_⟩
   cases e
   obtain ⟨o, n, e, c, hd, _⟩ := pl
   exact ⟨o, e, hd⟩
  ·refine ⟨⟨o, I.kIn p o hk, hc⟩, fun a e => ?_⟩
   cases e
   exact ⟨o, I.kIn _ o hk, hd⟩
  ·have z : ∃ o, s.heap.get? p = some o /\ o.ExactDict := by
    rcases hk with ⟨kvs, hk⟩ | ⟨kvs, hk⟩
    ·obtain ⟨_, _, _, _, o, _, _, e, ex, _⟩ := I.hok p _ hk
     exact ⟨o, e, ex⟩
    ·obtain ⟨_, _, _, _, o, _, _, e, ex, _⟩ := I.hok p _ hk
     exact ⟨o, e, ex⟩
   obtain ⟨o, e, ex⟩ := z
   refine ⟨⟨o, e, ex.1⟩, fun a e2 => ?_⟩
   cases e2
   exact ⟨o, e, ex.2.1⟩
  ·obtain ⟨o, _, _, _, e, ex, _⟩ := I.hok p _ hk
   refine ⟨⟨o, e, ex.1⟩, fun a e2 => ?_⟩
   cases e2
   exact ⟨o, e, ex.2.1⟩
 | _ => exact False.elim ty
def xi (K : PySem.W.Frag) (T : String) (r : V -> List V -> Hp -> VK -> Prop) (to : TE) : TE := fun σ H Q => to σ H fun x H1 => tyV K T x H1 /\ r x [] H1 Q
def tBM (K : PySem.W.Frag) (T : String) (r : V -> List V -> Hp -> VK -> Prop) (to : TE) (t : TA) : TE := fun σ H Q => to σ H fun x H1 => tyV K T x H1 /\ t σ H1 fun xs H2 => r x xs H2 Q
variable {o e : Expr} {es : List Expr} {to : TE} {t : TA} {name : Str} {apos cpos : Pos} {T id : String} {r : V -> List V -> Hp -> VK -> Prop}
theorem kK (pa : PlainAttrs T) (slot : Slot T name id) (hty : typeOf (.builtin id) = pure (.type "method_descriptor")) (hm : MtR X id r) (ho : PE X o to)
  (hbase : attributeBase o name X.env (eval o X.env) = eval o X.env := by rfl) (hline : (apos.endLine == cpos.line) = true := by rfl) : PE X (.Call (.Attribute o name apos) [] [] cpos) (xi X.K T r to) := by
 intro pins s σ H Q I h
 refine wpAny_Call_method0_late hbase hline (thn (ho pins s σ H _ I h) fun v s1 ⟨x, H1, I1, r1, ty, q1⟩ => ?_)
 obtain ⟨h1, h2⟩ := rX I1 r1 ty
 exact ⟨T, id, pa, slot, hty, h1, h2, Calls.callWith_builtin rfl (PySem.evalArgs_none (hm pins s1 σ H1 x [] v [] Q I1 r1 .nil q1))⟩
theorem mB (pa : PlainAttrs T) (slot : Slot T name id) (hty : typeOf (.builtin id) = pure (.type "method_descriptor")) (hm : MtR X id r) (ho : PE X o to) (ha : PA X (e :: es) t)
  (hbase : attributeBase o name X.env (eval o X.env) = eval o X.env := by rfl)
  (hfew : ((backTo cpos (starEach (e :: es) X.env)).all (fun x => !x.1) && (backToKw cpos (keywordEach [] X.env)).all (fun x => x.1.isSome)
   && decide ((e :: es).length + ([] : List Keyword).length + (if ([] : List Keyword).isEmpty then 0 else 1) < 30)) = true := by rfl)
  (hline : (apos.endLine == cpos.line) = true := by rfl) (hs : starEach (e :: es) X.env = (false, eval e X.env) :: starEach es X.env := by rfl) (hplain : (backTo cpos (starEach es X.env)).any (·.1) = false := by rfl) :
  PE X (.Call (.Attribute o name apos) (e :: es) [] cpos) (tBM X.K T r to t) := by
 intro pins s σ H Q I h
 refine wpAny_Call_method_late hbase hfew hline rfl (thn (ho pins s σ H _ I h) fun v s1 ⟨x, H1, I1, r1, ty, q1⟩ => ?_)
 obtain ⟨h1, h2⟩ := rX I1 r1 ty
 refine ⟨T, id, pa, slot, hty, h1, h2, ?_⟩
 have hA := ha cpos pins s1 σ H1 _ I1 q1
 rw [hs] at hA ⊢
 refine Calls.callWith_builtin (by show (false || (backTo cpos (starEach es X.env)).any (·.1)) = false; rw [hplain] <;> rfl) (Calls.evalArgs_plain ?_)
 exact thn hA fun us s2 ⟨vs, H2, I2, r2, q2⟩ => hm pins s2 σ H2 x vs v us Q I2 r1 r2 q2
end
def MtM (X : Cx) (id : String) (r : V -> List V -> Hp -> VK -> Prop) : Prop :=
 ∀ (pins : List (Addr × Obj)) (s : Shared) (σ : St) (H : Hp) (x : V) (xs : List V) (v : Value) (us : List Value) (Q : VK), Inv X pins σ H s -> aX x v -> aU xs us -> r x xs H Q ->
  wpAny (model X.prog X.w) X.A (call (.builtin id) (v :: us)) (EP X pins σ Q) X.xe s
theorem aU.one : ∀ {x : V} {us : List Value}, aU [x] us -> ∃ u, us = [u] /\ aX x u
 | _, _, .cons r .nil => ⟨_, rfl, r⟩
theorem aU.zero : ∀ {us : List Value}, aU [] us -> us = []
 | _, .nil => rfl
theorem aU.dropLast {xs : List V} {us : List Value} (h : aU xs us) : aU xs.dropLast us.dropLast := by
 induction h with
 | nil => exact .nil
 | cons r t ih =>
  cases t with
  | nil => exact .nil
  | cons q t' => exact .cons r ih
theorem oy {α : Type} (l : List α) : l.eraseIdx (l.length - 1) = l.dropLast := by
 induction l with
 | nil => rfl
 | cons a r ih =>
  cases r with
  | nil => rfl
  | cons b r =>
   have e : (a :: b :: r).length - 1 = ((b :: r).length - 1) + 1 := by
    have h1 : (a :: b :: r).length = r.length + 2 := rfl
    have h2 : (b :: r).length = r.length + 1 := rfl
    omega
   rw [e, List.eraseIdx_cons_succ, ih]
   all_goals rfl
section
variable {X : Cx} {pins : List (Addr × Obj)} {σ : St} {H : Hp} {s : Shared} {l b : Addr} {xs ys zs : List V}
theorem Inv.lset {its its' : List Value} {n : Nat} {f : Array Value -> Array Value} {t' : Nat} (I : Inv X pins σ H s) (hH : H l = some (.lst xs))
  (e : s.heap.get? l = some { cls := .type "list", data := .seq its.toArray n }) (hf : f its.toArray = its'.toArray) (hv : aU ys its') (hz : ys.length <= sizeLine) :
  Inv X pins σ (upd H l (.lst ys)) { s with heap := s.heap.update l (Obj.mapSeq f), toks := t' } := by
 have q := PySem.IsL.update e f
 rw [hf] at q
 refine I.write (x := l) (e := l) (by rw [hH]; exact trivial) (.inl rfl) (fun b' u hb hu => (Heap.get?_update_other s.heap (Obj.mapSeq f) (Ne.symm hb)).trans hu) ⟨_, q⟩ ?_
 exact ⟨hz, its', _, hv, q⟩
theorem Inv.lnew {its : List Value} {t' : Nat} (I : Inv X pins σ H s) (hv : aU ys its) (hz : ys.length <= sizeLine) :
  Inv X pins σ (upd H s.heap.objs.size (.lst ys)) { s with heap := s.heap.push { cls := .type "list", data := .seq its.toArray }, toks := t' } :=
 I.laid (fun _ _ q => Heap.get?_push_of_some _ q) (Nat.le_refl _) ⟨hz, its, 0, hv, Heap.get?_push_size _ rfl⟩
theorem Inv.fresh (I : Inv X pins σ H s) : H s.heap.objs.size = none := I.hok.fresh (Nat.le_refl _)
theorem Inv.lstM (I : Inv X pins σ H s) (hH : H l = some (.lst xs)) : xs.length <= sizeLine /\ ∃ (its : List Value) (n : Nat), aU xs its /\ xs.length = its.length /\ s.heap.get? l = some { cls := .type "list", data := .seq its.toArray n } := by
 obtain ⟨z, its, n, r, e⟩ := I.hok l _ hH
 exact ⟨z, its, n, r, r.length, e⟩
theorem tQ {n : Nat} (h : n <= sizeLine) : Builtin.List.listTooLong n = false := by
 unfold Builtin.List.listTooLong
 exact decide_eq_false (by omega)
end
section
variable {X : Cx}
def uh : V -> List V -> Hp -> VK -> Prop := fun x vs H Q => ∃ l xs y, x = .ref l /\ vs = [y] /\ H l = some (.lst xs) /\ xs.length < sizeLine /\ Q .non (upd H l (.lst (xs ++ [y])))
theorem ff : MtM X "list.append" uh := by
 intro pins s σ H x vs v us Q I rx rv h
 obtain ⟨l, xs, y, rfl, rfl, hH, hz, q⟩ := h
 cases rx
 obtain ⟨u, rfl, ru⟩ := rv.one
 obtain ⟨z, its, n, r, hl, e⟩ := I.lstM hH
 refine call_meets F.slot_list_append ⟨_, e, rfl⟩ F.entry_list_append (F.args_list_append_2 _ _) (PySem.list_append l its.toArray n u (by rw [List.size_toArray]; omega)) ⟨e, ?_⟩
 refine ⟨.non, _, I.lset (its' := its ++ [u]) hH e (by simp) (r.append (.cons ru .nil)) ?_, rfl, q⟩
 rw [List.length_append, List.length_singleton]
 omega
def ue : V -> List V -> Hp -> VK -> Prop := fun x vs H Q => ∃ l b xs zs, x = .ref l /\ vs = [.ref b] /\ H l = some (.lst xs) /\ H b = some (.lst zs) /\ xs.length + zs.length <= sizeLine /\ Q .non (upd H l (.lst (xs ++ zs)))
theorem qc : MtM X "list.extend" ue := by
 intro pins s σ H x vs v us Q I rx rv h
 obtain ⟨l, b, xs, zs, rfl, rfl, hH, hB, hz, q⟩ := h
 cases rx
 obtain ⟨u, rfl, ru⟩ := rv.one
 cases ru
 obtain ⟨z, its, n, r, hl, e⟩ := I.lstM hH
 obtain ⟨z2, its2, n2, r2, hl2, e2⟩ := I.lstM hB
 have hsz : its.toArray.size + its2.toArray.size <= sizeLine := by rw [List.size_toArray, List.size_toArray]; omega
 have hlong : ¬ (!its.toArray.isEmpty && Builtin.List.listTooLong (its.toArray.size + its2.toArray.size)) = true := by
  rw [tQ hsz, Bool.and_false]
  exact Bool.false_ne_true
 refine call_meets F.slot_list_extend ⟨_, e, rfl⟩ F.entry_list_extend (F.args_list_extend_2 _ _)
  (AutoSeq1.list_extend_list_list_0 l its.toArray n b its2.toArray n2 hlong (by rw [List.size_toArray]; omega) (by omega)) ⟨e, e2, ?_⟩
 refine ⟨.non, _, I.lset (its' := its ++ its2) hH e (by simp) (r.append r2) ?_, rfl, q⟩
 rw [List.length_append]
 omega
def xp : V -> List V -> Hp -> VK -> Prop := fun x vs H Q => ∃ l xs y, x = .ref l /\ vs = [] /\ H l = some (.lst xs) /\ xs[xs.length - 1]? = some y /\ Q y (upd H l (.lst xs.dropLast))
theorem rW : MtM X "list.pop" xp := by
 intro pins s σ H x vs v us Q I rx rv h
 obtain ⟨l, xs, y, rfl, rfl, hH, hy, q⟩ := h
 cases rx
 have hus := rv.zero
 subst hus
 obtain ⟨z, its, n, r, hl, e⟩ := I.lstM hH
 obtain ⟨u, hu, ru⟩ := r.get hy
 have hy' : its.toArray[its.toArray.size - 1]? = some u := by
  show its.toArray[its.length - 1]? = some u
  rw [<- Array.getElem?_toList, <- hl]
  exact hu
 refine call_meets F.slot_list_pop ⟨_, e, rfl⟩ F.entry_list_pop (F.args_list_pop_1 _) (MeetsSeq.list_pop_last l its.toArray n u hy' (by rw [List.size_toArray]; omega)) ⟨e, ?_⟩
 refine ⟨y, _, I.lset (its' := its.dropLast) hH e ?_ r.dropLast ?_, ru, q⟩
 ·show its.toArray.eraseIdxIfInBounds (its.toArray.size - 1) = its.dropLast.toArray
  rw [List.size_toArray, List.eraseIdxIfInBounds_toArray, oy]
 ·rw [List.length_dropLast]
  omega
def xz : R2 := fun x y H Q => ∃ l b xs zs, x = .ref l /\ y = .ref b /\ H l = some (.lst xs) /\ H b = some (.lst zs) /\ xs.length + zs.length <= sizeLine /\ ∀ p, H p = none -> Q (.ref p) (upd H p (.lst (xs ++ zs)))
theorem oA : OpR X (binaryOp .Add) xz := by
 intro pins s σ H x y v u Q I rx ry h
 obtain ⟨l, b, xs, zs, rfl, rfl, hH, hB, hz, q⟩ := h
 cases rx
 cases ry
 obtain ⟨z, its, n, r, hl, e⟩ := I.lstM hH
 obtain ⟨z2, its2, n2, r2, hl2, e2⟩ := I.lstM hB
 refine PySem.P.add_list e e2 ?_ (by rw [List.size_toArray, List.size_toArray]; omega)
 have ea : its.toArray ++ its2.toArray = (its ++ its2).toArray := by simp
 rw [ea]
 exact ⟨.ref _, _, I.lnew (t' := s.toks) (r.append r2) (by rw [List.length_append]; omega), rfl, q _ I.fresh⟩
end
section
variable {prog : Program} {w : World} {A : Around} {E : Value -> Shared -> Prop} {s : Shared}
end
section
variable {X : Cx}
end
end L2
namespace Att
open PySem PySem.W PySem.Calls PyProof.Rows
theorem hV {P : Params} {h : Heap} : ∀ (ns : List Int) (vs : List Value), WellAll P h vs (ns.map WData.int) -> IntsAre vs ns := by
 intro ns
 induction ns with
 | nil =>
  intro vs w
  rw [List.map_nil] at w
  cases w
  exact .nil
 | cons n ns ih =>
  intro vs w
  rw [List.map_cons] at w
  cases w with
  | cons a b =>
   cases a
   exact .cons _ _ (ih _ b)
theorem pX {l : OpenLaw} {n : Nat} (hn : l.most = some n) {P : Params} {h : Heap} {args : List WData} {vals : List Value}
  (hpre : l.row.toRowW.claim.pre args = true) (hwl : WellAll P h vals args) :
  ∃ a vs ns, vals = [Value.ref a] /\ args = [WData.list (ns.map WData.int)] /\ h.get? a = some { cls := .type "list", data := .seq vs.toArray } /\ IntsAre vs ns /\ ns.length <= n := by
 have hsh : WShape.hasAll [] args [.list .int] = true := (pre_splitW hpre).1
 have hc : l.pre.holds [] { args := args } = true := (pre_splitW hpre).2
 obtain ⟨d, r, rfl, h1, h2⟩ := hasAllW_cons hsh
 obtain rfl := hasAllW_nil h2
 obtain ⟨xs, rfl, h3⟩ := hasW_list h1
 obtain ⟨ns, rfl⟩ := items_int h3
 have hlen : ns.length <= n := by
  unfold OpenLaw.pre at hc
  have h4 : (WTm.not (.lt (.lit (.int (n : Int))) (.len (.arg 0)))).holds [] { args := [.list (ns.map .int)] } = true := by
   have h4 := (holds_andW hc).1
   rw [hn] at h4
   exact h4
  have h5 := condW_of h4 (w_not (w_lt w_lit (w_len_list (w_arg rfl))))
  rw [List.length_map] at h5
  refine Nat.le_of_not_lt fun q => ?_
  have q' : (n : Int) < ((ns.length : Nat) : Int) := by omega
  first
   | (rw [decide_eq_true q'] at h5; exact absurd h5 (by decide))
   | (simp at h5; omega)
 cases hwl with
 | cons w1 w2 =>
  cases w2
  cases w1 with
  | list ho hall => exact ⟨_, _, ns, rfl, rfl, ho, hV ns _ hall, hlen⟩
theorem qj (l : OpenLaw) (args : List WData) : l.row.toRowW.claim.post args (.bool true) args = true :=
 postW_of (r := l.row.toRowW) (X := (true == true))
  (show WShape.has [] (.bool true) .bool = true by first | rfl | decide | simp [WShape.has, WShape.arms, WShape.armsAll])
  (show (WTm.eq .res (.lit (.bool true))).value [] { args := args, res := some (.bool true), after := args } = some (.bool (true == true)) from w_eq_bool (w_res rfl) w_lit) rfl
theorem attach_call {l : OpenLaw} {n : Nat} {q : Program} {loose : List Str} {XP : (Str -> Option Value) -> Heap -> Prop} {YP : World -> Heap -> Prop} {d : DefRec}
  (hn : l.most = some n) (hdf : d.params.defaults = [])
  (call : ∀ (w : World) (s₀ s₁ : Shared) (mg mb : Str -> Option Value) (fa : Addr) (o : Obj) (pm cd doc : Value) (a : Addr) (vs : List Value) (ns : List Int),
   Ground q loose [] XP w s₀ mg mb s₁.heap -> YP w s₁.heap ->
   s₁.heap.get? fa = some o -> o.data = .func (docDef d.name d.params d.body d.scope pm cd doc) -> s₁.heap.CodeRec cd d.name -> mg d.name = some (.ref fa) ->
   s₁.heap.get? a = some { cls := .type "list", data := .seq vs.toArray } -> IntsAre vs ns -> ns.length <= n -> s₁.gens = #[] ->
   codeAny (model l.prog w) callerA (.call (.ref fa) ⟨[.ref a], []⟩) (fun r s' => r = .ok (.ret (.bool true)) /\ OldK s₁.heap s'.heap /\ s'.os = s₁.os /\ AllBare s'.gens) s₁) :
  WalkO q loose XP YP l.row.toRowW d [] (fun f vs => PySem.call f vs) := by
 intro w s₀ s₁ mg mb G Y fa o pm cd doc dV kV ho hd hcd hD hmg hg args vals as hpre hlay hrd hwl hlo
 obtain rfl : dV = .none := Dflts.none hD hdf
 obtain rfl : kV = .none := Dflts.noKw hD
 obtain ⟨a, vs, ns, rfl, rfl, hobj, hints, hlen⟩ := pX hn hpre hwl
 refine enter_call (codeAny_mono (call w s₀ s₁ mg mb fa o pm cd doc a vs ns G Y ho (fd_plain hd) hcd hmg hobj hints hlen hg) fun r s' hq => ?_)
 obtain ⟨rfl, h2, h3, h4⟩ := hq
 exact ⟨.inl ⟨.bool true, .bool true, [], rfl, fun _ => rfl, .bool true, qj l _, fun _ => ⟨List.Pairwise.nil, fun _ hm => (nomatch hm)⟩⟩, h2, h3, h4⟩
section
variable {prog : Program} {w : World} {A : Around} {E : Value -> Shared -> Prop} {s : Shared} {K : Frag}
def noObjs (h : Heap) : Heap := { h with objs := #[] }
theorem noObjs_get (h : Heap) (b : Addr) : (noObjs h).get? b = none := by
 cases e : (noObjs h).get? b with
 | none => rfl
 | some o => exact absurd (Heap.lt_size e) (Nat.not_lt_zero _)
theorem fr_all {h : Heap} {L : Addr} {m : Str -> Option Value} (n : h.Ns L m) : Fr (noObjs h) L h m :=
 ⟨n, fun b o e => (by rw [noObjs_get] at e; cases e), Nat.zero_le _⟩
end
end Att
namespace L2
open PySem PySem.Spec PyProof.Rows
theorem gJ : ∀ {vs : List Value} {ns : List Int}, IntsAre vs ns -> aU (ns.map V.int) vs
 | _, _, .nil => .nil
 | _, _, .cons n t h => .cons ⟨t, rfl⟩ (gJ h)
def wo (H : Hp) : Prop := ∀ b, H b = none \/ ∃ o xs, H b = some (.frz o (.lst xs))
theorem qZ {P : Program} {w : World} {K : PySem.W.Frag} {mg mb : Str -> Option Value} {CX : CXT} {k : Nat} {fa a : Addr} {fd : FuncData} {x : Str} {sp : Sp} {s₁ : Shared} {vs : List Value} {ns : List Int}
  (KX : K.In s₁.heap) (hns : s₁.heap.Ns mainGlobals mg) (hb : s₁.heap.Ns builtinsNs mb) (hbb : ∀ x : Str, x ≠ "__name__" -> mb x = bootBuiltins x) (hlim : s₁.heap.NoLimit) (hg : s₁.gens = #[])
  (ha : s₁.heap.get? a = some { cls := .type "list", data := .seq vs.toArray }) (hi : IntsAre vs ns) (hl : ns.length <= sizeLine) (hr : cR k callerA)
  (F : ∀ base : Heap, K.In base -> base.Ns mainGlobals mg -> br P w K mg base CX k fa fd [x] sp) (hbind : ∀ (s : Shared) (u : Value), BindsTo s fd ⟨[u], []⟩ [(x, u)])
  (hsp : ∀ H : Hp, wo H -> SqL K H a (ns.map V.int) -> sp [.ref a] H (fun v _ => v = .bl true) fun _ _ _ => False)
  (hCX : ∀ H e s', CX [] H s₁ (fun _ _ _ => False) e s' -> False) :
  codeAny (model P w) callerA (.call (.ref fa) ⟨[.ref a], []⟩) (fun r s' => r = .ok (.ret (.bool true)) /\ OldK s₁.heap s'.heap /\ s'.os = s₁.os /\ AllBare s'.gens) s₁ := by
 have rv := gJ hi
 have lenV := hi.length
 have core : ∀ H : Hp, wo H -> SqL K H a (ns.map V.int) -> HOk P w H s₁.heap -> (∀ b, H b ≠ none -> b = a) -> (H a ≠ none -> K.lookup a = none) ->
   codeAny (model P w) callerA (.call (.ref fa) ⟨[.ref a], []⟩) (fun r s' => r = .ok (.ret (.bool true)) /\ OldK s₁.heap s'.heap /\ s'.os = s₁.os /\ AllBare s'.gens) s₁ := by
  intro H hO hS hok hA hK
  have base_of : ∀ {b : Addr} {o : Obj}, s₁.heap.get? b = some o -> H b = none -> (lX s₁.heap H).get? b = some o := fun e n => rj e n
  have noA : ∀ {b : Addr} {o : Obj} {es : Array DictEntry} {ep : Nat}, s₁.heap.get? b = some o -> o.data = .dict es ep -> H b = none := fun {b o es ep} e d => by
   cases q : H b with
   | none => rfl
   | some u =>
    have e' : b = a := hA b (by rw [q]; simp)
    subst e'
    rw [ha] at e; cases e
    have d' : Data.seq vs.toArray _ = Data.dict es ep := d
    cases d'
  have nsK : ∀ {b : Addr} {m : Str -> Option Value}, s₁.heap.Ns b m -> (lX s₁.heap H).Ns b m := fun {b m} ⟨o, es, ep, e, d, r⟩ => ⟨o, es, ep, base_of e (noA e d), d, r⟩
  have hKb : K.In (lX s₁.heap H) := fun b o e => base_of (KX b o e) (by
   cases q : H b with
   | none => rfl
   | some u =>
    have e' : b = a := hA b (by rw [q]; simp)
    subst e'
    rw [hK (by rw [q]; simp)] at e; cases e)
  have hM : Mod K mg (lX s₁.heap H) := ⟨hKb, nsK hns, ⟨mb, nsK hb, hbb⟩, let ⟨mc, h1, h2⟩ := hlim; ⟨mc, nsK h1, h2⟩⟩
  have e0 : ve P w K mg (lX s₁.heap H) callerA [] s₁ H := ⟨rfl, hM, fun b o e => tY e, Nat.le_of_eq (qz _ _), trivial, fun b hb => absurd (show b ∈ ([] : List Addr) from hb) (by simp), hok, .of_eq hg⟩
  refine codeAny_mono ((F _ hKb (nsK hns)).run callerA [] s₁ H ⟨[.ref a], []⟩ [.ref a] [.ref a] _ _ hr e0 (hbind s₁ (.ref a)) (.cons rfl .nil) (hsp H hO hS)) fun r s' h => ?_
  cases r with
  | error e => exact (hCX H e s' h).elim
  | ok fl =>
   cases fl with
   | next => exact False.elim h
   | brk => exact False.elim h
   | cont => exact False.elim h
   | ret u =>
    obtain ⟨v, H', os, bare, un, hok', r', q⟩ := h
    have q' : v = .bl true := q
    subst q'
    obtain rfl : u = Value.bool true := r'
    refine ⟨rfl, OldK.of_keep fun b o e => ?_, os, bare⟩
    cases q : H b with
    | none => exact un.keep b o e q (by intro z; exact absurd (show b ∈ ([] : List Addr) from z) (by simp)) (by simp)
    | some u =>
     rcases hO b with z | ⟨ob, xs, z⟩
     ·rw [q] at z; cases z
     ·have z2 := un.frzs b ob _ z
      obtain ⟨e1, _⟩ := hok b _ z
      obtain ⟨e2, _⟩ := hok' b _ z2
      rw [e] at e1; cases e1
      exact e2
 cases hk : K.lookup a with
 | some o =>
  have e := KX a o hk
  rw [ha] at e
  cases e
  refine core (fun _ => none) (fun _ => .inl rfl) (.inr ⟨_, vs.toArray, _, hk, rfl, rfl, rfl, by rw [List.size_toArray, lenV]; exact hl, by simpa using rv⟩) (fun b u z => by have z' : (none : Option HO) = some u := z; cases z') (fun b z => absurd rfl z) fun z => absurd rfl z
 | none =>
  refine core (fun b => if b = a then some (.frz { cls := .type "list", data := .seq vs.toArray } (.lst (ns.map V.int))) else none) (fun b => ?_) (.inl (.inr ⟨{ cls := .type "list", data := .seq vs.toArray }, if_pos rfl⟩)) (fun b u z => ?_) (fun b z => ?_) fun _ => hk
  ·by_cases hb : b = a
   ·exact .inr ⟨_, _, if_pos hb⟩
   ·exact .inl (if_neg hb)
  ·by_cases hb : b = a
   ·have z' := (if_pos hb).symm.trans z
    cases z'
    subst hb
    exact ⟨ha, by rw [List.length_map]; exact hl, vs, _, rv, ha⟩
   ·have z' := (if_neg hb).symm.trans z
    cases z'
  ·by_cases hb : b = a
   ·exact hb
   ·exact absurd (if_neg hb) z
theorem walk_of {l : PySem.W.OpenLaw} {n k : Nat} {q : Program} {loose : List Str} {XP : (Str -> Option Value) -> Heap -> Prop} {YP : World -> Heap -> Prop} {d : DefRec} {K : Params -> PySem.W.Frag} {CX : World -> CXT} {sp : World -> Sp} {x : Str}
  (hn : l.most = some n) (hn2 : n <= sizeLine) (hdf : d.params.defaults = []) (hr : cR k callerA)
  (hY : ∀ (w : World) (h : Heap), YP w h -> (K w.params).In h)
  (F : ∀ (w : World) (mg : Str -> Option Value) (fa : Addr) (h : Heap), (K w.params).In h -> h.Ns mainGlobals mg -> mg d.name = some (.ref fa) ->
   ∃ fd : FuncData, (∀ (s : Shared) (u : Value), BindsTo s fd ⟨[u], []⟩ [(x, u)]) /\
    ∀ base : Heap, (K w.params).In base -> base.Ns mainGlobals mg -> br l.prog w (K w.params) mg base (CX w) k fa fd [x] (sp w))
  (hsp : ∀ (w : World) (H : Hp) (a : Addr) (ns : List Int), ns.length <= n -> wo H -> SqL (K w.params) H a (ns.map V.int) -> sp w [.ref a] H (fun v _ => v = .bl true) fun _ _ _ => False)
  (hCX : ∀ (w : World) (H : Hp) (s : Shared) (e : Value) (s' : Shared), CX w [] H s (fun _ _ _ => False) e s' -> False) :
  PySem.W.WalkO q loose XP YP l.row.toRowW d [] (fun f vs => PySem.call f vs) := by
 refine Att.attach_call hn hdf fun w s₀ s₁ mg mb fa o pm cd doc a vs ns G Y ho hd hcd hmg hobj hints hlen hg => ?_
 have KX := hY w _ Y
 obtain ⟨fd, hb, hF⟩ := F w mg fa _ KX G.T.g hmg
 exact qZ KX G.T.g G.T.b G.T.builtins G.T.nolimit hg hobj hints (Nat.le_trans hlen hn2) hr hF hb (fun H hO hS => hsp w H a ns hlen hO hS) fun H e s' => hCX w H s₁ e s'
def aT (s : Stmt) : Arguments := match s with
 | .FunctionDef _ a _ _ _ _ _ _ _ _ => a
 | _ => { posonlyargs := [], args := [], vararg := none, kwonlyargs := [], kw_defaults := [], kwarg := none, defaults := [] }
def aP (s : Stmt) : List Stmt := match s with
 | .FunctionDef _ _ b _ _ _ _ _ _ _ => b
 | _ => []
def aj (s : Stmt) : Scope := match s with
 | .FunctionDef _ _ _ _ _ _ sc _ _ _ => sc
 | _ => { kind := .function, names := [], isGenerator := false, isCoroutine := false }
abbrev CX0 : CXT := fun _ _ _ _ _ _ => False
abbrev E0 : XK := fun _ _ _ => False
theorem tu {X : Cx} : nO CX0 X E0 := fun _ _ _ _ _ _ _ h => h.elim
structure Fun (K : PySem.W.Frag) (x qual : Str) (st : Stmt) (f : Addr) (fd : FuncData) : Prop where
 ex : ∃ (oc : Value) (od : Option Addr) (kV doc pm : Value) (an : Option Addr) (cdv ct : Value) (osl : Array (Option Value)),
  fd = PySem.W.fnOf x qual (aT st) (aP st) (aj st) .none kV doc pm an cdv ct /\ K.lookup f = some ⟨oc, od, .func fd, osl⟩ /\ PySem.W.codeIn K cdv qual = true
 kp : PySem.W.keepIn K (.ref f) = true
section
variable {P : Program} {w : World} {K : PySem.W.Frag} {mg : Str -> Option Value} {base : Heap}
theorem Fun.ok {x qual : Str} {st : Stmt} {f : Addr} {fd : FuncData} {N ps : List Str} {k : Nat} {sp : Sp} (F : Fun K x qual st f fd) (S : aW N ps (aj st)) (len : ∀ vs H Q E, sp vs H Q E -> vs.length = ps.length)
  (hbody : ∀ (cdv : Value) (A : Around) (outer : List Env) (s : Shared) (H : Hp) (vs : List V) (Q : VK) (E : XK), cR k (A.deeper (envOfC qual (aj st) s.heap.objs.size f cdv)) -> sp vs H Q E ->
   ∃ t, PSs (nN CX0 P w K mg base N qual (aj st) f cdv A outer s H E).nox (aP st) t /\ t { nx := fun _ H' => Q .non H', rt := Q } (gg N vs) H) : br P w K mg base CX0 (k + 1) f fd ps sp := by
 obtain ⟨oc, od, kV, doc, pm, an, cdv, ct, osl, rfl, lk, hcd⟩ := F.ex
 refine vo lk hcd S len fun A outer s H vs Q E hr hsp => ?_
 obtain ⟨t, h, q⟩ := hbody cdv A outer s H vs Q E hr hsp
 exact ⟨t, h.nox, q⟩
theorem Fun.binds {x qual : Str} {st : Stmt} {f : Addr} {fd : FuncData} {ps : List Str} (F : Fun K x qual st f fd)
  (h : ∀ (kV doc pm : Value) (an : Option Addr) (cdv ct : Value) (us : List Value), us.length = ps.length -> bindArgs (PySem.W.fnOf x qual (aT st) (aP st) (aj st) .none kV doc pm an cdv ct) ⟨us, []⟩ = pure (ps.zip us)) : fw K fd ps [] := by
 obtain ⟨oc, od, kV, doc, pm, an, cdv, ct, osl, rfl, lk, hcd⟩ := F.ex
 exact .all (h kV doc pm an cdv ct)
theorem bf {x qual : Str} {st : Stmt} {f : Addr} {oc : Value} {od an : Option Addr} {osl : Array (Option Value)} {kV doc pm cdv ct : Value} (l : K.lookup f = some ⟨oc, od, .func (PySem.W.fnOf x qual (aT st) (aP st) (aj st) .none kV doc pm an cdv ct), osl⟩)
  (c : PySem.W.codeIn K cdv qual = true) (k : PySem.W.keepIn K (.ref f) = true) : Fun K x qual st f (PySem.W.fnOf x qual (aT st) (aP st) (aj st) .none kV doc pm an cdv ct) := ⟨⟨oc, od, kV, doc, pm, an, cdv, ct, osl, rfl, l, c⟩, k⟩
end
theorem cW {A : Around} {k : Nat} (hr : cR k A) : A.units + 1 < cLine := Nat.lt_of_le_of_lt (Nat.add_le_add_left (by decide : 1 <= 64) _) hr.units
theorem qI {n : Nat} (h : n <= 1000) : n < sizeLine := Nat.lt_of_le_of_lt h (by decide)
section
variable {X : Cx}
theorem pv (i : Nat) {x : Str} {pos : Pos} (hN : X.N[i]? = some x := by rfl) (hv : Vis X.env.scope x := by first | exact Or.inl rfl | exact Or.inr (Or.inl rfl) | exact Or.inr (Or.inr rfl)) (hd : (x == ("__debug__" : Str)) = false := by decide)
  (hcd : (x == ("__classdict__" : Str)) = false := by decide) : PE X (.Name x pos) (dB i) := sP hN hv hd hcd
end
theorem cr {A B : Prop} (h : B) : if false = true then A else B := by
 rw [if_neg Bool.false_ne_true]
 exact h
theorem bR {A B : Prop} (h : A) : if true = true then A else B := by
 rw [if_pos rfl]
 exact h
theorem bm {c A B : Prop} [Decidable c] (h1 : c -> A) (h2 : ¬ c -> B) : if c then A else B := by
 by_cases h : c
 ·rw [if_pos h]
  exact h1 h
 ·rw [if_neg h]
  exact h2 h
def ao (H H' : Hp) : Prop := ∀ b o, H b = some o -> H' b = some o
theorem ao.refl (H : Hp) : ao H H := fun _ _ h => h
theorem ao.trans {H H1 H2 : Hp} (a : ao H H1) (b : ao H1 H2) : ao H H2 := fun c o h => b c o (a c o h)
theorem ao.free {H H' : Hp} (e : ao H H') {l : Addr} (h : H' l = Option.none) : H l = Option.none := by
 cases q : H l with
 | none => rfl
 | some o =>
  rw [e l o q] at h
  cases h
theorem ao.seq {K : PySem.W.Frag} {H H' : Hp} {a : Addr} {xs : List V} (e : ao H H') (h : SqL K H a xs) : SqL K H' a xs := by
 rcases h with (h | ⟨o, h⟩) | h
 ·exact .inl (.inl (e _ _ h))
 ·exact .inl (.inr ⟨o, e _ _ h⟩)
 ·exact .inr h
section
variable {κ : Type} [DecidableEq κ]
end
theorem uD {prog : Program} {w : World} {A : Around} {R : Result -> Shared -> Prop} {s : Shared} {elt target iter : Expr} {ifs : List Expr} {scope : Scope} {pos : Pos} {it acc : Value} {env : Env} (I : Nat -> Shared -> Prop)
  (turn : ∀ n s, I n s -> wpAny (model prog w) A (pyNext it) (fun r s₁ => match r with
   | none => R (.ok .next) s₁
   | some v => wpAny (model prog w) A (letOwnedTupleGo target it v) (fun _ s₁' => wpAny (model prog w) A (assign target env v) (fun _ s₂ =>
     wpAny (model prog w) A (forIn ifs true fun c r => if r = true then do let ok <- isTrue c env (eval c env); pure (ForInStep.yield ok) else pure (ForInStep.yield r)) (fun ok s₃ =>
      if ok = true then wpAny (model prog w) A (eval elt env) (fun x s₄ =>
       wpAny (model prog w) A (call (.builtin "list.append") [acc, x]) (fun _ s₅ => ∃ m, m < n /\ I m s₅) (fun _ _ => False) s₄) (fun _ _ => False) s₃
      else ∃ m, m < n /\ I m s₃) (fun _ _ => False) s₂) (fun _ _ => False) s₁') (fun _ _ => False) s₁) (fun _ _ => False) s)
  (n : Nat) (h : I n s) :
  codeAny (model prog w) A (.compLoop (.ListComp elt [⟨target, iter, ifs, 0⟩] scope pos) 0 it acc env) R s := by
 refine codeAny_loop rfl I (fun n s hI => ?_) n h
 show wpAny _ A ((compTurn (.ListComp elt [⟨target, iter, ifs, 0⟩] scope pos) 0 it acc env).onRaise (fun x => do noteFrame x env; theTreesLotGoes x)) _ _ s
 refine wpAny_noted ?_
 rw [compTurn_list]
 have no : ∀ {E : Value -> Shared -> Prop} (x : Value) (s : Shared), False -> E x s := fun _ _ z => z.elim
 refine wpAny_bind (wpAny_standAt (wpAny_bind (wpAny_mono (turn n s hI) (fun r s₁ h₁ => ?_) no)))
 cases r with
 | none => exact wpAny_pure h₁
 | some v =>
  refine wpAny_bind (wpAny_mono h₁ (fun _ s₁' h₁' => ?_) no)
  refine wpAny_bind (wpAny_mono h₁' (fun _ s₂ h₂ => wpAny_bind (wpAny_mono h₂ (fun ok s₃ h₃ => ?_) no)) no)
  cases ok with
  | false => exact wpAny_pure ⟨rfl, h₃⟩
  | true =>
   exact wpAny_bind (wpAny_bind (wpAny_mono h₃ (fun x s₄ h₄ => wpAny_bind (wpAny_mono h₄ (fun _ s₅ h₅ => wpAny_pure (wpAny_pure ⟨rfl, h₅⟩)) no)) no))
def bo (env : Env) : List (Str × NameKind) -> List (Str × Addr) -> List (Str × Addr)
 | [], acc => acc
 | (n, k) :: r, acc => if k = .free then bo env r (match env.cells.lookup n with | some c => (n, c) :: acc | none => acc) else bo env r acc
theorem mD {env : Env} {scope : Scope} (h : ∀ x ∈ scope.names, x.2 = .free -> ∃ c, env.cells.lookup x.1 = some c) : closureFor scope env = pure (bo env scope.names []) := by
 have all : ∀ (l : List (Str × NameKind)) (acc : List (Str × Addr)), (∀ x ∈ l, x.2 = NameKind.free -> ∃ c, env.cells.lookup x.1 = some c) ->
   (forIn l acc fun x cs => (do
    if x.2 == NameKind.free then
     let a <- cellOf env x.1
     pure (ForInStep.yield ((x.1, a) :: cs))
    else pure (ForInStep.yield cs) : Sem _)) = pure (bo env l acc) := by
  intro l
  induction l with
  | nil => intro acc _; rfl
  | cons x r ih =>
   intro acc hl
   obtain ⟨n, k⟩ := x
   have hr := fun y hy => hl y (List.mem_cons_of_mem _ hy)
   rw [List.forIn_cons]
   by_cases hk : k = .free
   ·subst hk
    obtain ⟨c, hc⟩ := hl (n, .free) List.mem_cons_self rfl
    simp only [beq_self_eq_true, if_true, bo]
    have e : cellOf env n = pure c := by unfold cellOf; rw [show env.cells.lookup n = some c from hc]
    rw [e]
    simp only [pure_bind]
    rw [ih _ hr, show env.cells.lookup n = some c from hc]
   ·have hb : (k == NameKind.free) = false := by simpa using hk
    simp only [hb, Bool.false_eq_true, if_false, bo, if_neg hk, pure_bind]
    exact ih _ hr
 unfold closureFor
 exact (congrArg (fun t : Sem (List (Str × Addr)) => t >>= pure) (all scope.names [] h)).trans (by simp)
theorem bE {env : Env} : ∀ (l : List (Str × NameKind)) (acc : List (Str × Addr)), (∀ n c, acc.lookup n = some c -> env.cells.lookup n = some c) -> ∀ n c, (bo env l acc).lookup n = some c -> env.cells.lookup n = some c
 | [], acc, h, n, c, e => h n c e
 | (m, k) :: r, acc, h, n, c, e => by
  unfold bo at e
  split at e
  ·refine bE r _ ?_ n c e
   intro n' c' e'
   split at e'
   ·rename_i c0 hc0
    rw [List.lookup_cons] at e'
    split at e'
    ·rename_i hb
     have : n' = m := by simpa using hb
     subst this
     cases e'
     exact hc0
    ·exact h n' c' e'
   ·exact h n' c' e'
  ·exact bE r _ h n c e
theorem dZ {env : Env} {n : Str} : ∀ (l : List (Str × NameKind)) (acc : List (Str × Addr)), (∃ c, acc.lookup n = some c) -> ∃ c, (bo env l acc).lookup n = some c
 | [], acc, h => h
 | (m, k) :: r, acc, h => by
  unfold bo
  split
  ·refine dZ r _ ?_
   obtain ⟨c, hc⟩ := h
   split
   ·rw [List.lookup_cons]
    split
    ·exact ⟨_, rfl⟩
    ·exact ⟨c, hc⟩
   ·exact ⟨c, hc⟩
  ·exact dZ r _ h
theorem cL {env : Env} {n : Str} (hc : ∃ c, env.cells.lookup n = some c) : ∀ (l : List (Str × NameKind)) (acc : List (Str × Addr)), (n, NameKind.free) ∈ l -> ∃ c, (bo env l acc).lookup n = some c
 | [], _, h => by cases h
 | (m, k) :: r, acc, h => by
  obtain ⟨c, hc⟩ := hc
  unfold bo
  rcases List.mem_cons.mp h with e | h
  ·cases e
   rw [if_pos rfl, hc]
   exact dZ r _ ⟨c, by simp⟩
  ·split
   ·exact cL ⟨c, hc⟩ r _ h
   ·exact cL ⟨c, hc⟩ r _ h
def Cx.comp (X : Cx) (N : List Str) (scope : Scope) (fp : List Addr) (s : Shared) (H : Hp) : Cx where
 prog := X.prog
 w := X.w
 K := X.K
 mg := X.mg
 base := X.base
 A := X.A
 N := N
 s₀ := s
 H₀ := H
 env := compEnvC scope (bo X.env scope.names []) (s.heap.objs.size + 1) X.env
 outer := X.stack
 stack := X.stack
 ex := fp
 calm := X.calm
 fn := fun _ => false
 pn := []
 xe := fun _ _ => False
def dl (k : Nat) (ix : List Nat) (σ : St) : St := List.replicate k none ++ ix.map fun j => (σ[j]?).join
structure df (N : List Str) (sc : Scope) (scope : Scope) (own : List Str) (ix : List Nat) : Prop where
 kind : scope.kind = .function
 nocell : ∀ y ∈ scope.names, y.2 ≠ .cell
 names : ∀ y ∈ scope.names, y.2 = .local -> scope.names.lookup y.1 = some .local
 free : ∀ y ∈ scope.names, y.2 = .free -> sc.names.lookup y.1 = some .cell \/ sc.names.lookup y.1 = some .free
 cap : ∀ j ∈ ix, ∀ x, N[j]? = some x -> (x, NameKind.free) ∈ scope.names /\ (scope.names.lookup x = some .free)
 inN : ∀ j ∈ ix, j < N.length
abbrev lcN (N own : List Str) (ix : List Nat) : List Str := own ++ ix.filterMap fun j => N[j]?
theorem uC {N own : List Str} {ix : List Nat} (h : ∀ j ∈ ix, j < N.length) : (lcN N own ix).length = own.length + ix.length := by
 unfold lcN
 rw [List.length_append]
 congr 1
 induction ix with
 | nil => rfl
 | cons j r ih =>
  have hj : j < N.length := h j List.mem_cons_self
  rw [List.filterMap_cons, List.getElem?_eq_getElem hj]
  show _ + 1 = _ + 1
  rw [ih fun i hi => h i (List.mem_cons_of_mem _ hi)]
theorem fu {N : List Str} : ∀ {ix : List Nat}, (∀ j ∈ ix, j < N.length) -> ∀ {i : Nat} {x : Str}, (ix.filterMap fun j => N[j]?)[i]? = some x -> ∃ j, ix[i]? = some j /\ N[j]? = some x
 | [], _, i, x, e => by simp at e
 | j :: r, h, i, x, e => by
  have hj : j < N.length := h j List.mem_cons_self
  rw [List.filterMap_cons, List.getElem?_eq_getElem hj] at e
  cases i with
  | zero =>
   refine ⟨j, rfl, ?_⟩
   rw [List.getElem?_eq_getElem hj]
   exact e
  | succ i =>
   obtain ⟨j', e1, e2⟩ := fu (fun i hi => h i (List.mem_cons_of_mem _ hi)) (i := i) (x := x) (by simpa using e)
   exact ⟨j', by simpa using e1, e2⟩
theorem jQ {k : Nat} {ix : List Nat} {σ : St} {i : Nat} {v : V} (h : (dl k ix σ)[i]? = some (some v)) : ∃ i' j, i = k + i' /\ ix[i']? = some j /\ σ[j]? = some (some v) := by
 unfold dl at h
 by_cases hi : i < k
 ·rw [List.getElem?_append_left (by simpa using hi), List.getElem?_replicate, if_pos hi] at h
  cases h
 ·rw [List.getElem?_append_right (by simpa using hi), List.length_replicate, List.getElem?_map] at h
  refine ⟨i - k, ?_⟩
  cases e : ix[i - k]? with
  | none => rw [e] at h; cases h
  | some j =>
   rw [e] at h
   refine ⟨j, by omega, rfl, ?_⟩
   have h' : (σ[j]?).join = some v := by simpa using h
   cases q : σ[j]? with
   | none => rw [q] at h'; cases h'
   | some o =>
    rw [q] at h'
    exact congrArg some h'
theorem cI {env : Env} {x : Str} : ∀ {names : List (Str × NameKind)}, names.lookup x = some .free ->
  (names.map fun (n, k) => if (k == NameKind.free && env.scope.kind == .function && env.kindOf n == some .cell) then (n, NameKind.cell) else (n, k)).lookup x = some .cell \/
  (names.map fun (n, k) => if (k == NameKind.free && env.scope.kind == .function && env.kindOf n == some .cell) then (n, NameKind.cell) else (n, k)).lookup x = some .free
 | [], h => by simp at h
 | (n, k) :: r, h => by
  have ih := @cI env x r
  rw [List.map_cons]
  show List.lookup x ((if (k == NameKind.free && env.scope.kind == .function && env.kindOf n == some .cell) = true then (n, NameKind.cell) else (n, k)) :: _) = _ \/ List.lookup x ((if (k == NameKind.free && env.scope.kind == .function && env.kindOf n == some .cell) = true then (n, NameKind.cell) else (n, k)) :: _) = _
  cases hx : x == n with
  | true =>
   simp only [List.lookup_cons, hx] at h
   cases h
   by_cases hc : (NameKind.free == NameKind.free && env.scope.kind == .function && env.kindOf n == some .cell) = true
   ·rw [if_pos hc]; left; simp only [List.lookup_cons, hx]
   ·rw [if_neg hc]; right; simp only [List.lookup_cons, hx]
  | false =>
   simp only [List.lookup_cons, hx] at h
   by_cases hc : (k == NameKind.free && env.scope.kind == .function && env.kindOf n == some .cell) = true
   ·rw [if_pos hc]; simp only [List.lookup_cons, hx]; exact ih h
   ·rw [if_neg hc]; simp only [List.lookup_cons, hx]; exact ih h
theorem cH {env : Env} {x : Str} {kd : NameKind} : ∀ {names : List (Str × NameKind)},
  (names.map fun (n, k) => if (k == NameKind.free && env.scope.kind == .function && env.kindOf n == some .cell) then (n, NameKind.cell) else (n, k)).lookup x = some kd -> (kd = .cell \/ kd = .free) -> (∀ y ∈ names, y.2 ≠ .cell) ->
  (x, NameKind.free) ∈ names
 | [], h, _, _ => by simp at h
 | (n, k) :: r, h, hk, hc => by
  have ih := @cH env x kd r
  rw [List.map_cons] at h
  have hcr : ∀ y ∈ r, y.2 ≠ .cell := fun y hy => hc y (List.mem_cons_of_mem _ hy)
  by_cases hf : k = .free
  ·subst hf
   cases hx : x == n with
   | true =>
    have : x = n := by simpa using hx
    subst this
    exact List.mem_cons_self
   | false =>
    refine List.mem_cons_of_mem _ (ih ?_ hk hcr)
    by_cases hcc : (NameKind.free == NameKind.free && env.scope.kind == .function && env.kindOf n == some .cell) = true
    ·have h2 : List.lookup x ((if (NameKind.free == NameKind.free && env.scope.kind == .function && env.kindOf n == some .cell) = true then (n, NameKind.cell) else (n, NameKind.free)) :: r.map fun (n, k) => if (k == NameKind.free && env.scope.kind == .function && env.kindOf n == some .cell) then (n, NameKind.cell) else (n, k)) = some kd := h
     rw [if_pos hcc, List.lookup_cons, hx] at h2
     exact h2
    ·have h2 : List.lookup x ((if (NameKind.free == NameKind.free && env.scope.kind == .function && env.kindOf n == some .cell) = true then (n, NameKind.cell) else (n, NameKind.free)) :: r.map fun (n, k) => if (k == NameKind.free && env.scope.kind == .function && env.kindOf n == some .cell) then (n, NameKind.cell) else (n, k)) = some kd := h
     rw [if_neg hcc, List.lookup_cons, hx] at h2
     exact h2
  ·have hb : (k == NameKind.free) = false := by simpa using hf
   have h2 : List.lookup x ((if (k == NameKind.free && env.scope.kind == .function && env.kindOf n == some .cell) = true then (n, NameKind.cell) else (n, k)) :: r.map fun (n, k) => if (k == NameKind.free && env.scope.kind == .function && env.kindOf n == some .cell) then (n, NameKind.cell) else (n, k)) = some kd := h
   rw [hb, Bool.false_and, Bool.false_and, if_neg Bool.false_ne_true, List.lookup_cons] at h2
   cases hx : x == n with
   | true =>
    rw [hx] at h2
    cases h2
    rcases hk with z | z
    ·exact absurd z (hc (n, _) List.mem_cons_self)
    ·exact absurd z hf
   | false =>
    rw [hx] at h2
    exact List.mem_cons_of_mem _ (ih h2 hk hcr)
theorem nlt {a b : Nat} (h : a < b) : a ≠ b := Nat.ne_of_lt h
theorem ngt {a b : Nat} (h : a < b) : b ≠ a := Nat.ne_of_gt h
theorem kJ {a b : Nat} (h : a < b) : a ≠ b + 1 := Nat.ne_of_lt (Nat.lt_succ_of_lt h)
theorem xC {a b : Nat} (h : a < b) : b + 1 ≠ a := Nat.ne_of_gt (Nat.lt_succ_of_lt h)
theorem nss (a : Nat) : a ≠ a + 1 := Nat.ne_of_lt (Nat.lt_succ_self a)
theorem wF (a : Nat) : a + 1 ≠ a := Nat.ne_of_gt (Nat.lt_succ_self a)
section
variable {X : Cx} {pins : List (Addr × Obj)} {σ : St} {H : Hp} {s : Shared} {scope : Scope} {own : List Str} {ix : List Nat} {fp : List Addr}
theorem Inv.compOk {N : List Str} (I : Inv X pins σ H s) (L : df X.N X.env.scope scope own ix) (hf : ∀ b ∈ fp, iH X pins H b) (hlt : ∀ b ∈ fp, b < s.heap.objs.size) : (X.comp N scope fp s H).Ok where
 mod := I.ok.mod
 kind := L.kind
 glob := I.ok.glob
 blt := I.ok.blt
 above := Nat.le_succ _
 inj := fun x y c h1 h2 => I.ok.inj x y c (bE _ _ (fun _ _ z => by simp at z) x c h1) (bE _ _ (fun _ _ z => by simp at z) y c h2)
 has := fun x hx => by
  have hm : (x, NameKind.free) ∈ scope.names := by
   rcases hx with hx | hx
   ·exact cH (env := X.env) (x := x) (names := scope.names) hx (.inl rfl) L.nocell
   ·exact cH (env := X.env) (x := x) (names := scope.names) hx (.inr rfl) L.nocell
  exact cL (I.ok.has x (L.free _ hm rfl)) _ _ hm
 cab := fun x c h => by cases h
 hd := I.ok.hd
 frames := I.ok.frames
 stk := .inl rfl
 exf := fun b hb => ⟨kJ (hlt b hb), fun x c e => (hf b hb).2.2.2.2.1 x c (bE _ _ (fun _ _ z => by simp at z) x c e)⟩
 bs := I.bs
 bsz := Nat.le_trans I.ok.bsz I.sz
 noex := fun b o e hb => by
  rcases (hf b hb).2.2.2.1 with z | z
  ·exact I.ok.noex b o e z
  ·exact absurd (Nat.lt_of_lt_of_le (Heap.lt_size e) (Nat.le_trans I.ok.bsz z)) (Nat.lt_irrefl _)
 exfs := fun b hb z => by
  rcases List.mem_cons.mp (I.stkSub b z) with e | e
  ·exact (hf b hb).2.1 e
  ·exact (hf b hb).2.2.1 e
 funs := I.stack
 frf := I.stkFree
theorem Inv.compStart {h1 : Heap} {tk : Nat} (I : Inv X pins σ H s) (L : df X.N X.env.scope scope own ix) (hf : ∀ b ∈ fp, iH X pins H b) (hlt : ∀ b ∈ fp, b < s.heap.objs.size)
  (k : ∀ b o, s.heap.get? b = some o -> h1.get? b = some o) {m : Str -> Option Value} (hn : h1.Ns (s.heap.objs.size + 1) m) :
  Inv (X.comp (lcN X.N own ix) scope fp s H) [] (dl own.length ix σ) H { s with heap := h1, toks := tk } := by
 have sub := fun x c => bE (env := X.env) scope.names [] (fun _ _ z => by simp at z) x c
 refine ⟨I.compOk L hf hlt, rfl, I.bare, Un.kept k, ⟨m, hn, fun i x v e1 e2 e3 => ?_⟩, fun x c e => ?_, I.hok.fresh (Nat.le_succ _), fun x c e => I.freeC x c (sub x c e), fun p hp => absurd (show p ∈ ([] : List (Addr × Obj)) from hp) (by simp), I.hok.kept k, ?_⟩
 ·obtain ⟨i', j, rfl, hj, hv⟩ := jQ e2
  have e1' : (lcN X.N own ix)[own.length + i']? = some x := e1
  unfold lcN at e1'
  rw [List.getElem?_append_right (Nat.le_add_right _ _), Nat.add_sub_cancel_left] at e1'
  obtain ⟨j', hj', hN⟩ := fu L.inN e1'
  rw [hj] at hj'
  cases hj'
  have hjm : j ∈ ix := List.mem_of_getElem? hj
  obtain ⟨hmem, hlk⟩ := L.cap j hjm x hN
  have hkind := L.free _ hmem rfl
  obtain ⟨m0, hn0, hl0⟩ := I.loc
  obtain ⟨u, r, l⟩ := hl0 j x v hN hv (by rcases hkind with z | z; exact .inr (.inl z); exact .inr (.inr z))
  refine ⟨u, r, .inr ⟨?_, ?_⟩⟩
  ·exact cI (env := X.env) hlk
  ·rcases l with ⟨kl, _⟩ | ⟨_, c, hc, hcell⟩
   ·have kl' : X.env.scope.names.lookup x = some .local := kl
    rcases hkind with z | z
    ·rw [kl'] at z; cases z
    ·rw [kl'] at z; cases z
   ·obtain ⟨c', hc'⟩ := cL (env := X.env) ⟨c, hc⟩ scope.names [] hmem
    have : c' = c := by
     have q := sub x c' hc'
     rw [hc] at q
     exact (Option.some.inj q).symm
    subst this
    obtain ⟨o, ho, hd⟩ := hcell
    exact ⟨c', hc', o, k _ _ ho, hd⟩
 ·obtain ⟨v, o, ho, hd⟩ := I.cell x c (sub x c e)
  exact ⟨v, o, k _ _ ho, hd⟩
 ·show (dl own.length ix σ).length = (lcN X.N own ix).length
  rw [uC L.inN]
  unfold dl
  rw [List.length_append, List.length_replicate, List.length_map]
def GW (k : Nat) (g : TG) : Prop := ∀ x (σ : St) H (Q : St -> Hp -> Prop), g x σ H Q -> g x σ H fun σ2 H2 => Q σ2 H2 /\ σ2.length = σ.length /\ ∀ j, k <= j -> σ2[j]? = σ[j]?
theorem bK {k i : Nat} (h : i < k) : GW k (ev i) := fun x σ H Q q => ⟨q, by simp, fun j hj => by rw [List.getElem?_set_ne (by omega)]⟩
def GWs (k : Nat) (g : TGs) : Prop := ∀ x (σ : St) H (Q : St -> Hp -> Prop), g x σ H Q -> g x σ H fun σ2 H2 => Q σ2 H2 /\ σ2.length = σ.length /\ ∀ j, k <= j -> σ2[j]? = σ[j]?
def GM (g : TG) : Prop := ∀ x (σ : St) H (Q Q' : St -> Hp -> Prop), (∀ s h, Q s h -> Q' s h) -> g x σ H Q -> g x σ H Q'
theorem kf {i : Nat} : GM (ev i) := fun _ _ _ _ _ h q => h _ _ q
theorem uM {k : Nat} : GWs k pZ := fun x σ H Q q => ⟨q.1, q.2, rfl, fun _ _ => rfl⟩
theorem mn {k : Nat} {t : TG} {u : TGs} (ht : GW k t) (hu : GWs k u) (mt : GM t) (mu : ∀ x (σ : St) H (Q Q' : St -> Hp -> Prop), (∀ s h, Q s h -> Q' s h) -> u x σ H Q -> u x σ H Q') : GWs k (gW t u) := fun x σ H Q q => by
 obtain ⟨v, r, e, q⟩ := q
 refine ⟨v, r, e, mt _ _ _ _ _ ?_ (ht _ _ _ _ q)⟩
 rintro σ1 H1 ⟨q1, l1, j1⟩
 refine mu _ _ _ _ _ ?_ (hu _ _ _ _ q1)
 rintro σ2 H2 ⟨q2, l2, j2⟩
 exact ⟨q2, l2.trans l1, fun j hj => (j2 j hj).trans (j1 j hj)⟩
theorem pD : ∀ x (σ : St) H (Q Q' : St -> Hp -> Prop), (∀ s h, Q s h -> Q' s h) -> pZ x σ H Q -> pZ x σ H Q' := fun _ _ _ _ _ h q => ⟨q.1, h _ _ q.2⟩
theorem sq {t : TG} {u : TGs} (mt : GM t) (mu : ∀ x (σ : St) H (Q Q' : St -> Hp -> Prop), (∀ s h, Q s h -> Q' s h) -> u x σ H Q -> u x σ H Q') : ∀ x (σ : St) H (Q Q' : St -> Hp -> Prop), (∀ s h, Q s h -> Q' s h) -> gW t u x σ H Q -> gW t u x σ H Q' :=
 fun _ _ _ _ _ h ⟨v, r, e, q⟩ => ⟨v, r, e, mt _ _ _ _ _ (fun _ _ q1 => mu _ _ _ _ _ h q1) q⟩
theorem vN {k : Nat} {K : PySem.W.Frag} {n : Nat} {t : TGs} (ht : GWs k t) : GW k (uX K n t) := fun x σ H Q q => by
 obtain ⟨a, xs, e, hq, hl, q⟩ := q
 exact ⟨a, xs, e, hq, hl, ht _ _ _ _ q⟩
theorem gH {K : PySem.W.Frag} {i j k : Nat} (hi : i < k) (hj : j < k) : GW k (uX K 2 (gW (ev i) (gW (ev j) pZ))) :=
 vN (mn (bK hi) (mn (bK hj) uM kf pD) kf (sq kf pD))
def PIf (X : Cx) (ifs : List Expr) (t : TT) : Prop :=
 ∀ (pins : List (Addr × Obj)) (s : Shared) (σ : St) (H : Hp) (Q : Bool -> Hp -> Prop), Inv X pins σ H s -> t σ H Q ->
  wpAny (model X.prog X.w) X.A (forIn ifs true fun c r => if r = true then do let ok <- isTrue c X.env (eval c X.env); pure (ForInStep.yield ok) else pure (ForInStep.yield r)) (TP X pins σ Q) X.xe s
def vR : TT := fun _ H Q => Q true H
theorem cu : PIf X [] vR := fun _ _ _ H _ I h => wpAny_tests_nil ⟨H, I, h⟩
theorem dR {c : Expr} {t : TT} (h : PT X c t) : PIf X [c] t := fun pins s σ H Q I q => wpAny_tests_one (h pins s σ H Q I q)
def rLC (J : It) (k : Nat) (ix : List Nat) (g : TG) (tt : TT) (te : TE) (σ : St) (H1 : Hp) (Q : List V -> Hp -> Prop) : Prop :=
 ∃ W : Nat -> Nat -> List V -> Hp -> Prop, (∃ m, W 0 m [] H1) /\ ∀ i m ys H, W i m ys H ->
  (J.stop i H /\ Q ys H) \/
  (J.go i H /\ ∃ N : List V -> Hp -> Prop, (∀ ys' H', N ys' H' -> ∃ m', m' < m /\ W (i + 1) m' ys' H') /\ ∀ x H', J.yld i H x H' -> g x (dl k ix σ) H' fun σ2 H2 => tt σ2 H2 fun c H3 =>
   if c = true then te σ2 H3 fun y H4 => ys.length < sizeLine /\ N (ys ++ [y]) H4
   else N ys H3)
theorem mR {elt tg iter : Expr} {ifs : List Expr} {pos : Pos} {it : Addr} {tn : Nat -> Heap -> Prop} {J : It} {g : TG} {tt : TT} {te : TE} {E : Value -> Shared -> Prop} {Qf : List V -> Hp -> Prop} {RR : Value -> Addr -> Result -> Shared -> Prop}
  (L : df X.N X.env.scope scope own ix) (hc : X.calm = true) (hg : ∀ fp s H, PG (X.comp (lcN X.N own ix) scope fp s H) tg g) (gw : GW own.length g)
  (ht : ∀ fp s H, PIf (X.comp (lcN X.N own ix) scope fp s H) ifs tt) (he : ∀ fp s H, PE (X.comp (lcN X.N own ix) scope fp s H) elt te)
  (I : Inv X pins σ H s) (T : iQ X.prog X.w X.K tg J fp it tn) (st : tn 0 s.heap) (hf : ∀ b ∈ fp, iH X pins H b)
  (hw : rLC J own.length ix g tt te σ H Qf)
  (hRR : ∀ (D C : Addr) (s' : Shared) (ys : List V) (H' : Hp) (m : Str -> Option Value), s'.heap.Ns C m -> C ≠ X.env.locals -> (∀ x c, X.env.cells.lookup x = some c -> c ≠ C) -> X.s₀.heap.objs.size <= C -> (∀ p ∈ X.pn ++ pins, p.1 ≠ C) -> upd H' D (.lst ys) C = none -> H' D = none ->
   Inv X pins σ (upd H' D (.lst ys)) s' -> Qf ys H' -> RR (.ref D) C (.ok .next) s') :
  wpAny (model X.prog X.w) X.A (newList []) (fun acc s₃ => wpAny (model X.prog X.w) X.A (newFunctionEnv scope X.env.globals (bo X.env scope.names []) [] X.env.qual none .none (some X.env)) (fun cenv s₄ =>
   codeAny (model X.prog X.w) X.A (.compStart (.ListComp elt [⟨tg, iter, ifs, 0⟩] scope pos) 0 (.ref it) acc { cenv with scope := relabel scope X.env }) (RR acc cenv.locals) s₄) E s₃) E s := by
 obtain ⟨W, ⟨m0, w0⟩, turn⟩ := hw
 have hlt : ∀ b ∈ fp, b < s.heap.objs.size := fun b hb => by
  obtain ⟨o, e, _⟩ := T.obj 0 s.heap st b hb
  exact Heap.lt_size e
 refine wpAny_newObj_type (wpAny_newFunctionEnv L.nocell (by intro y hy; simp at hy) (fun h₁ hns₁ hsb₁ => ?_) L.kind)
 dsimp only at hns₁ hsb₁ ⊢
 generalize hH2 : s.heap.push { cls := .type "list", dict := none, data := .seq ([] : List Value).toArray } = h2 at hns₁ hsb₁ ⊢
 have hC : h2.objs.size = s.heap.objs.size + 1 := by rw [<- hH2, Heap.size_push]
 have old : ∀ b o, s.heap.get? b = some o -> h₁.get? b = some o := fun b o e => by
  exact hsb₁.extBut b o (by rw [hC]; exact kJ (Heap.lt_size e)) (Heap.get?_push_of_some _ (hH2 ▸ Heap.get?_push_of_some _ e))
 have hacc : h₁.PlainList s.heap.objs.size #[] := ⟨_, hsb₁.extBut _ _ (by rw [hC]; exact nss _) (Heap.get?_push_of_some _ (hH2 ▸ Heap.get?_push_size _ rfl))⟩
 have hD0 : H s.heap.objs.size = none := I.hok.fresh (Nat.le_refl _)
 rw [hC] at hns₁
 have I0 := I.compStart (tk := s.toks + ([] : List (Str × Value)).length) L hf hlt old hns₁
 have sub := fun x c => bE (env := X.env) scope.names [] (fun _ _ z => by simp at z) x c
 have cellLt : ∀ x c, X.env.cells.lookup x = some c -> c < s.heap.objs.size := fun x c e => by
  obtain ⟨v, q⟩ := I.cell x c e
  exact q.lt
 have stkLt : ∀ b ∈ frs X.stack, b < s.heap.objs.size := fun b hb => by
  obtain ⟨_, o, ho, _⟩ := I.stack.mem hb
  exact Heap.lt_size ho
 have env_eq : ({ newEnv scope h2.objs.size X.env.globals (bo X.env scope.names []) X.env.qual none .none (some X.env) builtinsNs with scope := relabel scope X.env } : Env) = (X.comp (lcN X.N own ix) scope fp s H).env := by
  show compEnvC scope (bo X.env scope.names []) h2.objs.size X.env = compEnvC scope (bo X.env scope.names []) (s.heap.objs.size + 1) X.env
  rw [hC]
 have loop : codeAny (model X.prog X.w) X.A (.compLoop (.ListComp elt [⟨tg, iter, ifs, 0⟩] scope pos) 0 (.ref it) (.ref s.heap.objs.size) (X.comp (lcN X.N own ix) scope fp s H).env) (RR (.ref s.heap.objs.size) (s.heap.objs.size + 1))
   { s with heap := h₁, toks := s.toks + ([] : List (Str × Value)).length } := by
  refine uD (fun n s' => ∃ i ys H', Inv (X.comp (lcN X.N own ix) scope fp s H) [] (dl own.length ix σ) H' s' /\ tn i s'.heap /\ (∀ b ∈ fp, H' b = none) /\ H' s.heap.objs.size = none /\
   (∃ its : List Value, aU ys its /\ s'.heap.PlainList s.heap.objs.size its.toArray) /\ ys.length <= sizeLine /\ W i n ys H') ?_ m0
   ⟨0, [], H, I0, T.keep _ _ _ st (fun b _ o e => old b o e), fun b hb => (hf b hb).1, hD0, ⟨[], .nil, hacc⟩, Nat.zero_le _, w0⟩
  rintro n s3 ⟨i, ys, H3, I3, st3, fr3, d3, ⟨its, rv, n3, hp3⟩, hz, w3⟩
  have Ip := I3.pins_of (pins' := [(s.heap.objs.size, { cls := .type "list", data := .seq its.toArray n3 })]) (fun p hp => by
   have e : p = (s.heap.objs.size, { cls := .type "list", data := .seq its.toArray n3 }) := by simpa using hp
   subst e
   exact ⟨hp3, d3, nss _, fun z => absurd (stkLt _ z) (Nat.lt_irrefl _), fun v z => by cases z⟩)
  have stat : ∀ {H' : Hp}, (∀ b ∈ fp, H' b = none) -> ∀ b ∈ fp, iH (X.comp (lcN X.N own ix) scope fp s H) [(s.heap.objs.size, { cls := .type "list", data := .seq its.toArray n3 })] H' b := fun hn b hb =>
   ⟨hn b hb, kJ (hlt b hb), I3.ok.exfs b hb, .inl hb, fun x c e => (I3.ok.exf b hb).2 x c e, fun p hp => by
    have e : p = (s.heap.objs.size, { cls := .type "list", data := .seq its.toArray n3 }) := by simpa using (show p ∈ ([] : List (Addr × Obj)) ++ [(s.heap.objs.size, { cls := .type "list", data := .seq its.toArray n3 })] from hp)
    subst e
    exact ngt (hlt b hb)⟩
  rcases turn i n ys H3 w3 with ⟨stop, qf⟩ | ⟨go, N, hN, step⟩
  ·refine thn (T.done (X.comp (lcN X.N own ix) scope fp s H) rfl rfl rfl hc i _ s3 _ H3 _ Ip (stat fr3) st3 stop) fun r s4 ⟨hr, I4⟩ => ?_
   subst hr
   obtain ⟨e4, d4, _⟩ := I4.pin (s.heap.objs.size, { cls := .type "list", data := .seq its.toArray n3 }) (List.mem_append_right _ List.mem_cons_self)
   obtain ⟨mC, hnC, _⟩ := I4.loc
   have hok : HOk X.prog X.w (upd H3 s.heap.objs.size (.lst ys)) s4.heap := fun b u e => by
    by_cases hb : b = s.heap.objs.size
    ·subst hb
     rw [ab] at e
     cases e
     exact ⟨hz, its, n3, rv, e4⟩
    ·rw [aq hb] at e
     exact (I4.hok b u e).stay (fun c v _ q => q) (fun c q => by rw [aq (ai q d4)]; exact q) fun c xs q => by rw [aq (ai q d4)]; exact q
   have ub := I4.base
   have un : Un (frs X.stack) fp H (upd H3 s.heap.objs.size (.lst ys)) s.heap s4.heap :=
    ⟨ub.keep, ub.slot, fun b o e n hx => by rw [aq (Nat.ne_of_lt (Heap.lt_size e))]; exact ub.free b o e n hx, ub.there,
     fun b xs e => by rw [aq (ai (ub.tups b xs e) d4)]; exact ub.tups b xs e, fun b o u e => by rw [aq (ai (ub.frzs b o u e) d4)]; exact ub.frzs b o u e,
     fun b ps e => by
      obtain ⟨more, q⟩ := ub.tbls b ps e
      exact ⟨more, by rw [aq (ai q d4)]; exact q⟩⟩
   have I5 : Inv X pins σ (upd H3 s.heap.objs.size (.lst ys)) s4 := I.call' I4.os un hok I4.bare fun b hb => by
    obtain ⟨f0, f1, f2, f3, f4, f5⟩ := hf b hb
    exact ⟨f3, f1, f4, f5⟩
   refine hRR _ _ s4 ys H3 mC hnC ?_ ?_ ?_ ?_ ?_ d4 I5 qf
   ·exact xC I.lt
   ·intro x c e
    exact kJ (cellLt x c e)
   ·exact Nat.le_trans I.sz (Nat.le_succ _)
   ·intro p hp
    exact kJ (Heap.lt_size (I.pin p hp).1)
   ·rw [aq (wF _)]
    exact I4.free
  ·refine thn (T.item (X.comp (lcN X.N own ix) scope fp s H) rfl rfl rfl hc i _ s3 _ H3 _ Ip (stat fr3) st3 go) fun r s4 ⟨u, hr, h4⟩ => ?_
   subst hr
   refine thn h4 fun _ s5 ⟨x, H5, I5, r5, y5, st5, fr5⟩ => ?_
   have I5' := I5.pinned (stat fr5) (T.obj _ _ st5)
   refine thn (hg fp s H _ s5 _ H5 x u _ I5' r5 (gw _ _ _ _ (step x H5 y5))) fun _ s6 ⟨σ6, H6, I6, q6, l6, k6⟩ => ?_
   refine thn (ht fp s H _ s6 σ6 H6 _ I6 q6) fun c s7 ⟨H7, I7, q7⟩ => ?_
   have again : ∀ {s8 : Shared} {H8 : Hp}, Inv (X.comp (lcN X.N own ix) scope fp s H) ([(s.heap.objs.size, { cls := .type "list", data := .seq its.toArray n3 })] ++ iN fp s5.heap) σ6 H8 s8 ->
     Inv (X.comp (lcN X.N own ix) scope fp s H) [] (dl own.length ix σ) H8 s8 /\ tn (i + 1) s8.heap /\ (∀ b ∈ fp, H8 b = none) /\ H8 s.heap.objs.size = none /\ s8.heap.get? s.heap.objs.size = some { cls := .type "list", data := .seq its.toArray n3 } := fun {s8 H8} I8 => by
    obtain ⟨e8, d8, _⟩ := I8.pin (s.heap.objs.size, { cls := .type "list", data := .seq its.toArray n3 }) (List.mem_append_right _ (List.mem_append_left _ List.mem_cons_self))
    refine ⟨(I8.pins_of (pins' := []) fun p hp => by cases hp).weak l6.symm fun j v e => ?_, T.keep _ _ _ st5 fun b hb o e => (I8.pin (b, o) (List.mem_append_right _ (List.mem_append_right _ (dP hb e)))).1, fun b hb => ?_, d8, e8⟩
    ·obtain ⟨i', j', rfl, _, _⟩ := jQ e
     rw [k6 _ (Nat.le_add_right _ _)]
     exact e
    ·obtain ⟨o, e, d⟩ := T.obj _ _ st5 b hb
     exact (I8.pin (b, o) (List.mem_append_right _ (List.mem_append_right _ (dP hb e)))).2.1
   cases c with
   | false =>
    rw [if_neg Bool.false_ne_true] at q7 ⊢
    obtain ⟨m', hm, w7⟩ := hN _ _ q7
    obtain ⟨a1, a2, a3, a4, a5⟩ := again I7
    exact ⟨m', hm, i + 1, ys, H7, a1, a2, a3, a4, ⟨its, rv, n3, a5⟩, hz, w7⟩
   | true =>
    rw [if_pos rfl] at q7 ⊢
    refine thn (he fp s H _ s7 σ6 H7 _ I7 q7) fun v s8 ⟨y, H8, I8, r8, hz8, q8⟩ => ?_
    obtain ⟨m', hm, w8⟩ := hN _ _ q8
    obtain ⟨a1, a2, a3, a4, a5⟩ := again I8
    refine wpAny_list_append_plain (s := s8) (l := s.heap.objs.size) (items := its.toArray) ⟨n3, a5⟩ (fun h9 hl9 hs9 => ?_) (by have := rv.length; simp; omega)
    have I9 : Inv (X.comp (lcN X.N own ix) scope fp s H) [] (dl own.length ix σ) H8 { s8 with heap := h9 } := a1.turned (t' := s8.toks) (it := s.heap.objs.size) (fun b o hb e => hs9.extBut b o hb e) a4 (nss _)
     (.inr (Nat.le_refl _)) (fun x c e => nlt (cellLt x c (sub x c e))) (fun p hp => absurd (show p ∈ ([] : List (Addr × Obj)) from hp) (by simp))
    refine ⟨m', hm, i + 1, ys ++ [y], H8, I9, T.keep _ _ _ a2 (fun b hb o e => hs9.extBut b o (nlt (hlt b hb)) e), a3, a4, ⟨its ++ [v], aU.append rv (.cons r8 .nil), ?_⟩, ?_, w8⟩
    ·have e : (its ++ [v]).toArray = its.toArray.push v := by simp
     rw [e]
     exact hl9
    ·rw [List.length_append]
     show _ + 1 <= _
     omega
 show codeAny _ _ (.compStart _ 0 (.ref it) (.ref s.heap.objs.size) _) (RR (.ref s.heap.objs.size) h2.objs.size) _
 rw [hC]
 have e2 := env_eq
 rw [hC] at e2
 refine Eq.mpr (congrArg (fun e => codeAny (model X.prog X.w) X.A (.compStart (.ListComp elt [⟨tg, iter, ifs, 0⟩] scope pos) 0 (.ref it) (.ref s.heap.objs.size) e) (RR (.ref s.heap.objs.size) (s.heap.objs.size + 1)) { s with heap := h₁, toks := s.toks + ([] : List (Str × Value)).length }) e2) ?_
 exact codeAny_compStart_list loop (T.self X.A 0 _ _ _ (T.keep _ _ _ st fun b _ o e => old b o e) loop)
end
section
variable {X : Cx} {scope : Scope} {own : List Str} {ix : List Nat}
def tLC (wi : TI) (k : Nat) (ix : List Nat) (g : TG) (tt : TT) (te : TE) : TE := fun σ H Q => wi σ H fun J H1 => rLC J k ix g tt te σ H1 fun ys H' => ∀ a, H' a = none -> Q (.ref a) (upd H' a (.lst ys))
theorem Inv.clos {pins : List (Addr × Obj)} {σ : St} {H : Hp} {s : Shared} (I : Inv X pins σ H s) (L : df X.N X.env.scope scope own ix) : closureFor scope X.env = pure (bo X.env scope.names []) :=
 mD fun x hx hf => I.ok.has x.1 (L.free x hx hf)
theorem dq {elt tg iter : Expr} {ifs : List Expr} {pos : Pos} {wi : TI} {g : TG} {tt : TT} {te : TE} (hi : PI X tg iter wi) (L : df X.N X.env.scope scope own ix) (hc : X.calm = true)
  (hg : ∀ fp s H, PG (X.comp (lcN X.N own ix) scope fp s H) tg g) (gw : GW own.length g) (ht : ∀ fp s H, PIf (X.comp (lcN X.N own ix) scope fp s H) ifs tt) (he : ∀ fp s H, PE (X.comp (lcN X.N own ix) scope fp s H) elt te)
  (hs : ∀ x, foldedSetIterable iter X.env x = pure x := by intro _; rfl) : PE X (.ListComp elt [⟨tg, iter, ifs, 0⟩] scope pos) (tLC wi own.length ix g tt te) := by
 intro pins s σ H Q I h
 rw [eval_ListComp]
 refine wpAny_comprehension_free (use := none) rfl hs (I.clos L) L.kind L.names (thn (hi pins s σ H _ I h) fun v s1 h1 => thn h1 fun itv s2 h2 => ?_)
 obtain ⟨it, fp, tn, J, H2, e, I2, T, st2, f2, hw⟩ := h2
 subst e
 refine mR (RR := fun acc C => compPost (model X.prog X.w) X.A X.xe none (EP X pins σ Q) acc C) L hc hg gw ht he I2 T st2 f2 hw ?_
 intro D C s' ys H' m hn c1 c2 c3 c4 c5 d I' q
 exact ⟨m, hn, fun h' hs' => ⟨.ref D, _, I'.turned (t' := s'.toks) (it := C) (fun b o hb e => hs'.extBut b o hb e) c5 c1 (.inr c3) c2 c4, rfl, q D d⟩⟩
theorem oO {elt tg iter : Expr} {ifs : List Expr} {pos spos py : Pos} {wi : TI} {g : TG} {tt : TT} {te : TE} {i : Nat} {y : Str} (hN : X.N.Nodup) (hy : X.N[i]? = some y) (hx : X.env.scope.names.lookup y = some .local) (hi : PI X tg iter wi) (L : df X.N X.env.scope scope own ix) (hc : X.calm = true)
  (hg : ∀ fp s H, PG (X.comp (lcN X.N own ix) scope fp s H) tg g) (gw : GW own.length g) (ht : ∀ fp s H, PIf (X.comp (lcN X.N own ix) scope fp s H) ifs tt) (he : ∀ fp s H, PE (X.comp (lcN X.N own ix) scope fp s H) elt te)
  (hsw : swapsWith (.ListComp elt [⟨tg, iter, ifs, 0⟩] scope pos) (some (.Name y py)) spos.line X.env = pure true := by rfl)
  (hs : ∀ x, foldedSetIterable iter X.env x = pure x := by intro _; rfl) : PS X (.Assign [.Name y py] (.ListComp elt [⟨tg, iter, ifs, 0⟩] scope pos) spos) (ut (tLC wi own.length ix g tt te) (ev i)) := by
 intro pins s σ H Dn I h
 rw [exec_Assign_Name_used _ _ _ _ hsw]
 refine wpAny_bind (wpAny_standAt (wpAny_bind ?_))
 show wpAny _ X.A (do let _ <- comprehension (.ListComp elt [⟨tg, iter, ifs, 0⟩] scope pos) scope X.env _ (newList []) false (eval iter X.env) (some (assign (.Name y py) X.env))) _ _ s
 refine wpAny_bind (thn (wpAny_comprehension_free (use := some (assign (.Name y py) X.env)) (Q := fun _ s' => SP X pins Dn .next s') rfl hs (I.clos L) L.kind L.names
  (thn (hi pins s σ H _ I h) fun v s1 h1 => thn h1 fun itv s2 h2 => ?_)) fun _ s' hq => wpAny_pure (wpAny_pure hq))
 obtain ⟨it, fp, tn, J, H2, e, I2, T, st2, f2, hw⟩ := h2
 subst e
 refine mR (RR := fun acc C => compPost (model X.prog X.w) X.A X.xe (some (assign (.Name y py) X.env)) (fun _ s' => SP X pins Dn .next s') acc C) L hc hg gw ht he I2 T st2 f2 hw ?_
 intro D C s' ys H' m hn c1 c2 c3 c4 c5 d I' q
 show wpAny _ X.A (assign (.Name y py) X.env (.ref D)) _ _ s'
 refine wpAny_assign_Name (jJ I' hN hy (.inl hx) (v := .ref D) rfl (fun s2 I2 ⟨a, hs2, ha⟩ => ?_) (.inr hx))
 have aC : a ≠ C := by
  rcases ha with rfl | ha
  ·exact Ne.symm c1
  ·exact c2 y a ha
 refine ⟨m, hn.sameBut hs2 (Ne.symm aC), fun h' hs' => ?_⟩
 exact ⟨_, _, I2.turned (t' := s2.toks) (it := C) (fun b o hb e => hs'.extBut b o hb e) c5 c1 (.inr c3) c2 c4, q D d⟩
end
section
variable {k : Nat} {ix : List Nat} {g : TG} {tt : TT} {te : TE} {σ : St} {H1 : Hp} {Q : List V -> Hp -> Prop}
def eu (k : Nat) (ix : List Nat) (g : TG) (tt : TT) (te : TE) (σ : St) (x : V) (ys : List V) (H : Hp) (N : List V -> Hp -> Prop) : Prop :=
 g x (dl k ix σ) H fun σ2 H2 => tt σ2 H2 fun c H3 => if c = true then te σ2 H3 fun y H4 => ys.length < sizeLine /\ N (ys ++ [y]) H4 else N ys H3
theorem my {J : It} {n : Nat} (Pv : Nat -> List V -> Hp -> Prop) (h0 : Pv 0 [] H1) (hgo : ∀ i ys H, i < n -> Pv i ys H -> J.go i H) (hst : ∀ ys H, Pv n ys H -> J.stop n H)
  (hs : ∀ i ys H x H', i < n -> Pv i ys H -> J.yld i H x H' -> eu k ix g tt te σ x ys H' (Pv (i + 1))) (hd : ∀ ys H, Pv n ys H -> Q ys H) : rLC J k ix g tt te σ H1 Q := by
 refine ⟨fun i m ys H => m = n - i /\ i <= n /\ Pv i ys H, ⟨n, by simp, Nat.zero_le _, h0⟩, ?_⟩
 rintro i m ys H ⟨rfl, hi, p⟩
 by_cases hlt : i < n
 ·exact .inr ⟨hgo i ys H hlt p, Pv (i + 1), fun ys' H' q => ⟨n - (i + 1), by omega, rfl, hlt, q⟩, fun x H' y => hs i ys H x H' hlt p y⟩
 ·have e : i = n := by omega
  subst e
  exact .inl ⟨hst ys H p, hd ys H p⟩
theorem ke {K : PySem.W.Frag} {a : Addr} {xs : List V} (Pv : Nat -> List V -> Hp -> Prop) (h0 : Pv 0 [] H1) (hl : ∀ i ys H, i <= xs.length -> Pv i ys H -> SqL K H a xs)
  (hs : ∀ i ys H x, xs[i]? = some x -> Pv i ys H -> eu k ix g tt te σ x ys H (Pv (i + 1))) (hd : ∀ ys H, Pv xs.length ys H -> Q ys H) : rLC (Itl K a) k ix g tt te σ H1 Q :=
 my (n := xs.length) Pv h0 (fun i ys H h p => ⟨xs, xs[i], hl i ys H (Nat.le_of_lt h) p, by simp [h]⟩) (fun ys H p => ⟨xs, hl _ ys H (Nat.le_refl _) p, Nat.le_refl _⟩) (fun i ys H x H' h p y => by
  obtain ⟨e, y⟩ := y
  subst e
  exact hs i ys _ x (y xs (hl i ys _ (Nat.le_of_lt h) p)) p) hd
theorem cY {K : PySem.W.Frag} {a : Addr} {xs : List V} (Pv : Nat -> List V -> Hp -> Prop) (h0 : Pv 0 [] H1) (hl : ∀ i ys H, i <= xs.length -> Pv i ys H -> SqT K H a xs)
  (hs : ∀ i ys H x, xs[i]? = some x -> Pv i ys H -> eu k ix g tt te σ x ys H (Pv (i + 1))) (hd : ∀ ys H, Pv xs.length ys H -> Q ys H) : rLC (Itt K a) k ix g tt te σ H1 Q :=
 my (n := xs.length) Pv h0 (fun i ys H h p => ⟨xs, xs[i], hl i ys H (Nat.le_of_lt h) p, by simp [h]⟩) (fun ys H p => ⟨xs, hl _ ys H (Nat.le_refl _) p, Nat.le_refl _⟩) (fun i ys H x H' h p y => by
  obtain ⟨e, y⟩ := y
  subst e
  exact hs i ys _ x (y xs (hl i ys _ (Nat.le_of_lt h) p)) p) hd
end
def Itf (f : Nat -> V) (n : Nat) : It := ⟨fun i _ => i < n, fun i H x H' => H' = H /\ x = f i, fun i _ => i = n⟩
theorem fE {P : Program} {w : World} {K : PySem.W.Frag} {tg : Expr} {it : Addr} {n : Nat} {Pv : Nat -> Value -> Prop} {tn : Nat -> Heap -> Prop} {f : Nat -> V}
  (W : ∀ A : Around, A.handled = none -> Walks P w A it [it] [it] n Pv tn) (ob : ∀ i h, tn i h -> ∃ o nm vs, h.get? it = some o /\ o.cls = .type nm /\ o.data = .fields vs /\ ["enumerate", "zip", "dict_itemiterator", "dict_reverseitemiterator", "odict_iterator", "itertools.zip_longest", "itertools.pairwise"].contains nm = false)
  (rel : ∀ i v, Pv i v -> aX (f i) v) (hself : ∀ (A : Around) (i : Nat) (s : Shared) (Q : Value -> Shared -> Prop) (E : Value -> Shared -> Prop), tn i s.heap -> Q (.ref it) s -> wpAny (model P w) A (pyIter (.ref it)) Q E s) : iQ P w K tg (Itf f n) [it] it tn where
 mem := by simp
 obj := fun i h st b hb => by
  have e : b = it := by simpa using hb
  subst e
  obtain ⟨o, nm, vs, e, _, d, _⟩ := ob i h st
  exact ⟨o, e, fun v z => by rw [d] at z; cases z⟩
 keep := fun i h h' st k => by
  by_cases hA : ∃ A : Around, A.handled = none
  ·obtain ⟨A, hA⟩ := hA
   exact (W A hA).frame i h h' st k
  ·exact absurd ⟨callerA, rfl⟩ hA
 item := by
  intro X hP hw hK hc i pins s σ H E I hf st hg
  subst hP hw hK
  obtain ⟨f0, f1, f2, f3, f4, f5⟩ := hf it (by simp)
  refine (W X.A (I.ok.hd hc)).item i s _ _ hg st fun v h' tk hv st' kk => ?_
  have I1 : Inv X pins σ H { s with heap := h', toks := tk } := I.turned (fun b o hb e => kk b o (by simpa using hb) e) f0 f1 f3 f4 f5
  obtain ⟨o, nm, vs, e, c, d, hn⟩ := ob _ _ st'
  exact ⟨v, rfl, mQ (s := { s with heap := h', toks := tk }) e c d hn ⟨f i, H, I1, rel i v hv, ⟨rfl, rfl⟩, st', fun b hb => (hf b hb).1⟩⟩
 done := by
  intro X hP hw hK hc i pins s σ H E I hf st hg
  subst hP hw hK
  obtain ⟨f0, f1, f2, f3, f4, f5⟩ := hf it (by simp)
  have e : i = n := hg
  subst e
  exact (W X.A (I.ok.hd hc)).done s _ _ st fun h' tk kk => ⟨rfl, I.turned (fun b o hb e => kk b o (by simpa using hb) e) f0 f1 f3 f4 f5⟩
 self := hself
theorem eA {i j c : Int} (q1 : 0 < c) (q3 : -1000000 <= i) (q4 : i < 1000000) (q5 : -1000000 <= j) (q6 : j < 1000000) : 0 <= Builtin.Range.rangeSize i j c /\ Builtin.Range.rangeSize i j c <= 2000000 := by
 unfold Builtin.Range.rangeSize
 rw [if_pos (show c > 0 from q1)]
 by_cases h : i < j
 ·rw [if_pos h]
  have h1 : 0 <= (j - i - 1) / c := Int.ediv_nonneg (by omega) (by omega)
  have h2 : (j - i - 1) / c <= j - i - 1 := Int.ediv_le_self _ (by omega)
  omega
 ·rw [if_neg h]; omega
theorem mL {i j c : Int} (q1 : 0 < c) (q2 : c < 1000) (q3 : -1000000 <= i) (q4 : i < 1000000) (q5 : -1000000 <= j) (q6 : j < 1000000) : Builtin.Range.small i j c = true := by
 obtain ⟨h1, h2⟩ := eA q1 q3 q4 q5 q6
 unfold Builtin.Range.small
 simp only [Builtin.Range.rangeFitsLong, Bool.and_eq_true, Bool.or_eq_true, decide_eq_true_eq, beq_iff_eq, show c > 0 from q1, if_true]
 omega
section
variable {X : Cx} {tg : Expr}
theorem Inv.fp1 {pins : List (Addr × Obj)} {σ : St} {H : Hp} {s : Shared} (I : Inv X pins σ H s) : ∀ b ∈ [s.heap.objs.size], iH X pins H b := fun b hb => by
 have e : b = s.heap.objs.size := by simpa using hb
 subst e
 exact I.fpOk (Nat.le_refl _) (I.hok.fresh (Nat.le_refl _))
def vj (x : Str) (i : Nat) : V := .str ⟨#[x.cps.getD i 0]⟩
def xo (ts : TE) : TI := fun σ H R => ts σ H fun x H1 => ∃ z, x = .str z /\ R (Itf (vj z) z.cps.size) H1
theorem wj {e : Expr} {ts : TE} (hl : PE X e ts) : PI X tg e (xo ts) := by
 intro pins s σ H R I h
 refine thn (hl pins s σ H _ I h) fun v s1 ⟨x, H1, I1, r1, q1⟩ => ?_
 obtain ⟨z, e, q⟩ := q1
 subst e
 obtain ⟨t, rfl⟩ := r1
 have rel : ∀ i v, SignAt z i v -> aX (vj z i) v := fun i v ⟨c, u, hc, hv⟩ => by
  subst hv
  refine ⟨u, ?_⟩
  have e : z.cps.getD i 0 = c := by rw [Array.getD_eq_getD_getElem?, hc]; rfl
  rw [e]
 cases ha : z.cps.all (· < 128) with
 | false =>
  refine wpAny_pyIter_wide ha ?_
  exact ⟨s1.heap.objs.size, [s1.heap.objs.size], _, _, H1, rfl, I1.kept (t' := s1.toks) fun b o e => Heap.get?_push_of_some _ e,
   fE (fun A hA => Walks.strWide hA _ z t) (fun i h ⟨o, e, c, d⟩ => ⟨o, "str_iterator", _, e, c, d, by decide⟩) rel (fun A i s Q E st hq => wpAny_pyIter_striter_wide st hq), ⟨_, Heap.get?_push_size _ rfl, rfl, rfl⟩, fun b hb => I1.fp1 b hb, q⟩
 | true =>
  refine wpAny_pyIter_ascii ha ?_
  exact ⟨s1.heap.objs.size, [s1.heap.objs.size], _, _, H1, rfl, I1.kept (t' := s1.toks) fun b o e => Heap.get?_push_of_some _ e,
   fE (fun A hA => Walks.strAscii hA _ z t) (fun i h ⟨o, e, c, d⟩ => ⟨o, "str_ascii_iterator", _, e, c, d, by decide⟩) rel (fun A i s Q E st hq => wpAny_pyIter_striter_ascii st hq), ⟨_, Heap.get?_push_size _ rfl, rfl, rfl⟩, fun b hb => I1.fp1 b hb, q⟩
def wG (ta : TA) : TI := fun σ H R => ta σ H fun vs H1 => ∃ i j c : Int, vs = [.int i, .int j, .int c] /\ (0 < c /\ c < 1000 /\ -1000000 <= i /\ i < 1000000 /\ -1000000 <= j /\ j < 1000000) /\ R (Itf (fun k => .int (i + k * c)) (Builtin.Range.rangeSize i j c).toNat) H1
theorem qM {a b c : Expr} {ta : TA} {p pos : Pos} (hg : Gl X "range") (hm : X.mg "range" = none) (ha : PA X [a, b, c] ta) (hs : starEach [a, b, c] X.env = [(false, eval a X.env), (false, eval b X.env), (false, eval c X.env)] := by rfl) (hs2 : starEach [b, c] X.env = [(false, eval b X.env), (false, eval c X.env)] := by rfl) :
  PI X tg (.Call (.Name "range" p) [a, b, c] [] pos) (wG ta) := by
 intro pins s σ H R I h
 refine Call_ (cU I hg hm boot_range (PyProof.Rows.callWith_type1 (thn (ha pos pins s σ H _ I h) fun us s1 ⟨vs, H1, I1, r1, q1⟩ => ?_) (by rw [hs, hs2]) (by rw [hs2]; rfl)))
 obtain ⟨i, j, c, e, ⟨q1, q2, q3, q4, q5, q6⟩, q⟩ := q1
 subst e
 cases r1 with
 | cons r rr =>
  cases rr with
  | cons r' rr =>
   cases rr with
   | cons r'' rr =>
    cases rr
    obtain ⟨t, rfl⟩ := r
    obtain ⟨t', rfl⟩ := r'
    obtain ⟨t'', rfl⟩ := r''
    refine call_range_3 (by omega) ?_ (.inl (PyProof.noPylong_small (by omega)))
    obtain ⟨z0, z1⟩ := eA q1 q3 q4 q5 q6
    have hsz : (((Builtin.Range.rangeSize i j c).toNat : Nat) : Int) = Builtin.Range.rangeSize i j c := by omega
    refine wpAny_pyIter_range (IsRange.new ..) (mL q1 q2 q3 q4 q5 q6) ?_
    have I2 : Inv X pins σ H1 { s1 with heap := s1.heap.push { cls := .type "range", data := .fields #[.int i t, .int j t', .int c t''] }, toks := s1.toks } := I1.kept fun b o e => Heap.get?_push_of_some _ e
    refine ⟨_, [_], _, _, H1, rfl, I2.kept (t' := s1.toks) fun b o e => Heap.get?_push_of_some _ e, fE (f := fun k => .int (i + k * c)) (fun A hA => Walks.range hA _ i c (Builtin.Range.rangeSize i j c).toNat) (fun k h st => ⟨_, "range_iterator", _, st, rfl, rfl, by decide⟩) (fun k v ⟨t, e⟩ => ⟨t, e⟩) (fun A k s Q E st hq => wpAny_pyIter_rangeiter st hq), ?_, fun b hb => I2.fp1 b hb, q⟩
    show IsRangeIter _ _ (i + ((0 : Nat) : Int) * c) (((Builtin.Range.rangeSize i j c).toNat : Nat) - ((0 : Nat) : Int)) c
    have e1 : i + ((0 : Nat) : Int) * c = i := by simp
    have e2 : (((Builtin.Range.rangeSize i j c).toNat : Nat) : Int) - ((0 : Nat) : Int) = Builtin.Range.rangeSize i j c := by rw [hsz]; simp
    rw [e1, e2]
    exact Heap.get?_push_size _ rfl
theorem Inv.freeze {pins : List (Addr × Obj)} {σ : St} {H : Hp} {s : Shared} {d : Addr} {u : HO} {o : Obj} (I : Inv X pins σ H s) (h : H d = some u) (hu : Mut (some u)) (ho : s.heap.get? d = some o) : Inv X pins σ (upd H d (.frz o u)) s := by
 have nt : ∀ b v, H b = some v -> ¬ Mut (some v) -> b ≠ d := fun b v q n z => by subst z; rw [h] at q; cases q; exact n hu
 have hok : HOk X.prog X.w (upd H d (.frz o u)) s.heap := fun b v e => by
  by_cases hb : b = d
  ·subst hb
   rw [ab] at e
   cases e
   refine ⟨ho, (I.hok b u h).stay (fun c w' _ q => q) (fun c q => ?_) fun c xs q => ?_⟩
   ·rw [aq (nt c _ q fun z => z)]; exact q
   ·rw [aq (nt c _ q fun z => z)]; exact q
  ·rw [aq hb] at e
   refine (I.hok b v e).stay (fun c w' _ q => q) (fun c q => ?_) fun c xs q => ?_
   ·rw [aq (nt c _ q fun z => z)]; exact q
   ·rw [aq (nt c _ q fun z => z)]; exact q
 refine I.un (h' := s.heap) (t' := s.toks) ⟨fun b o q _ _ _ => q, fun b o q _ _ _ => ⟨o.slots, q⟩, fun b o q n _ => ?_, fun b o q _ => ⟨o, q⟩, fun b xs q => ?_, fun b o v q => ?_, fun b ps q => ⟨#[], ?_⟩⟩ hok
 ·rw [aq (fun z => by subst z; rw [h] at n; cases n)]; exact n
 ·rw [aq (nt b _ q fun z => z)]; exact q
 ·rw [aq (nt b _ q fun z => z)]; exact q
 ·rw [aq (nt b _ q fun z => z), q]; simp
def Itd (d : Addr) (o : Obj) (kvs : List (Key × V)) : It :=
 ⟨fun i H => H d = some (.frz o (.dK kvs)) /\ i < kvs.length, fun i H x H' => H' = H /\ ∃ k v, kvs[i]? = some (k, v) /\ x = kV k, fun i H => H d = some (.frz o (.dK kvs)) /\ i = kvs.length⟩
theorem KV.at {kvs : List (Key × V)} {vs : List (Key × Value)} (r : KV kvs vs) {i : Nat} {k : Key} {v : Value} (e : vs[i]? = some (k, v)) : ∃ x, kvs[i]? = some (k, x) /\ aX x v := by
 induction r generalizing i with
 | nil => simp at e
 | @cons p q ps qs h t ih =>
  cases i with
  | zero =>
   have e' : q = (k, v) := by simpa using e
   obtain ⟨p1, p2⟩ := p
   subst e'
   obtain ⟨h1, h2⟩ := h
   have h1' : p1 = k := h1
   subst h1'
   exact ⟨p2, rfl, h2⟩
  | succ i => exact ih (by simpa using e)
theorem vn {P : Program} {w : World} {k : Key} {u : Value} (h : (be P w).is k u = true) : aX (kV k) u := by
 rcases bu (k := k) (v := u) h with ⟨i, t, rfl, rfl⟩ | ⟨x, t, rfl, rfl⟩
 ·exact ⟨t, rfl⟩
 ·exact ⟨t, rfl⟩
theorem qQ {P : Program} {w : World} {K : PySem.W.Frag} (d it : Addr) (o : Obj) (kvs : List (Key × V)) (vs : List (Key × Value)) (ep : Nat) (hlen : kvs.length = vs.length) (rel : KV kvs vs) (hat : ∀ h : Heap, h.get? d = some o -> h.DictAt (be P w) d vs ep) :
  iQ P w K tg (Itd d o kvs) [it] it (fun i h => h.IsKeyIter it d i vs.length ep) where
 mem := by simp
 obj := fun i h st b hb => by
  have e : b = it := by simpa using hb
  subst e
  obtain ⟨o, e, c, d⟩ := st
  exact ⟨o, e, fun v z => by rw [d] at z; cases z⟩
 keep := fun i h h' st k => st.at fun o e => k it (by simp) o e
 item := by
  intro X hP hw hK hc i pins s σ H E I hf st hg
  subst hP hw hK
  obtain ⟨hd, hi⟩ := hg
  obtain ⟨f0, f1, f2, f3, f4, f5⟩ := hf it (by simp)
  obtain ⟨ho, _⟩ := (show bg X.prog X.w H s.heap d (.frz o (.dK kvs)) from I.hok d _ hd)
  have hvi : i < vs.length := by omega
  refine wpAny_pyNext_dict_item (knd := be X.prog X.w) st (hat s.heap ho) (k := vs[i].1) (v := vs[i].2) (by simp [hvi]) fun key h' hkey st' sb => ?_
  have I1 : Inv X pins σ H { s with heap := h' } := I.turned (t' := s.toks) (fun b o hb e => (sb.2 b hb).trans e) f0 f1 f3 f4 f5
  obtain ⟨x, hx, _⟩ := rel.at (i := i) (k := vs[i].1) (v := vs[i].2) (by simp [hvi])
  obtain ⟨oi, e, c, dd⟩ := id st'
  exact ⟨key, rfl, mQ (s := { s with heap := h' }) e c dd (by decide) ⟨kV vs[i].1, H, I1, vn hkey, ⟨rfl, _, _, hx, rfl⟩, st', fun b hb => (hf b hb).1⟩⟩
 done := by
  intro X hP hw hK hc i pins s σ H E I hf st hg
  subst hP hw hK
  obtain ⟨hd, hi⟩ := hg
  obtain ⟨f0, f1, f2, f3, f4, f5⟩ := hf it (by simp)
  obtain ⟨ho, _⟩ := (show bg X.prog X.w H s.heap d (.frz o (.dK kvs)) from I.hok d _ hd)
  exact wpAny_pyNext_dict_end (knd := be X.prog X.w) (I.ok.hd hc) st (hat s.heap ho) (List.getElem?_eq_none_iff.mpr (by omega)) fun h' eb => ⟨rfl, I.turned (t' := s.toks) (fun b o hb e => eb b o hb e) f0 f1 f3 f4 f5⟩
 self := fun _ _ _ _ _ st h => wpAny_pyIter_keyiter st h
def wQ (td : TE) : TI := fun σ H R => td σ H fun x H1 => ∃ d kvs, x = .ref d /\ H1 d = some (.dK kvs) /\ ∀ o, R (Itd d o kvs) (upd H1 d (.frz o (.dK kvs)))
theorem pM {e : Expr} {td : TE} (hl : PE X e td) : PI X tg e (wQ td) := by
 intro pins s σ H R I h
 refine thn (hl pins s σ H _ I h) fun v s1 ⟨x, H1, I1, r1, q1⟩ => ?_
 obtain ⟨d, kvs, e, hd, q⟩ := q1
 subst e
 cases r1
 obtain ⟨hz, hS, vs, rel, m⟩ : kvs.length <= sizeLine /\ (d == sysModules) = false /\ ∃ vs, KV kvs vs /\ s1.heap.DictOf (be X.prog X.w) d vs := I1.hok d _ hd
 obtain ⟨ep, o, es, ho, rest⟩ := m.dictAt
 have hat : ∀ h : Heap, h.get? d = some o -> h.DictAt (be X.prog X.w) d vs ep := fun h e => ⟨o, es, e, rest⟩
 have I2 := I1.freeze hd True.intro ho
 refine wpAny_pyIter_dict hS (hat _ ho) ?_
 refine ⟨s1.heap.objs.size, [s1.heap.objs.size], _, _, _, rfl, I2.kept (t' := s1.toks) fun b o e => Heap.get?_push_of_some _ e, qQ d _ o kvs vs ep rel.length rel hat, ⟨_, Heap.get?_push_size _ rfl, rfl, rfl⟩, fun b hb => I2.fp1 b hb, q o⟩
end
section
variable {X : Cx}
theorem oH : OpR X (binaryOp .Mult) (fun x y H Q => ∃ i n, x = .str i /\ y = .int n /\ i.length <= 1000 /\ 0 <= n /\ n <= 1000 /\ Q (.str (Txt.mul i n)) H) := by
 intro pins s σ H x y v u Q I rx ry h
 obtain ⟨i, n, rfl, rfl, h1, h2, h3, q⟩ := h
 obtain ⟨t, rfl⟩ := rx
 obtain ⟨t', rfl⟩ := ry
 exact SB.mul (PyProof.Rows.mulOk_of 1000 1000 h1 (by omega) (by omega) (by decide) (by decide)) fun t' k => ⟨.str _, H, I.tok _, ⟨_, rfl⟩, q⟩
theorem fM {s : Shared} {h' : Heap} {o : Obj} (hk : ∀ b x, b ∉ [s.heap.objs.size] -> (s.heap.push o).get? b = some x -> h'.get? b = some x) (b : Addr) (x : Obj) (e : s.heap.get? b = some x) : h'.get? b = some x :=
 hk b x (fun z => by rw [List.mem_singleton.mp z] at e; exact Nat.lt_irrefl _ (Heap.lt_size e)) (Heap.get?_push_of_some _ e)
theorem jd : ∀ {bs : List Bool} {us : List Value}, aU (bs.map V.bl) us -> ∀ (i : Nat) (v : Value), us[i]? = some v -> ∃ b, bs[i]? = some b /\ v = .bool b
 | [], _, .nil, i, v, e => by simp at e
 | b :: bs, u :: us, .cons r t, 0, v, e => by
  have e' : u = v := by simpa using e
  subst e'
  exact ⟨b, rfl, r⟩
 | b :: bs, u :: us, .cons r t, i + 1, v, e => jd (bs := bs) t i v (by simpa using e)
theorem tM (hc : X.calm = true) : de X (.builtin "all") (fun xs H Q => ∃ (a : Addr) (bs : List Bool), xs = [.ref a] /\ SqL X.K H a (bs.map V.bl) /\ Q (.bl (bs.all id)) H) := by
 intro pins s σ H xs us Q I r h
 obtain ⟨a, bs, rfl, hq, q⟩ := h
 obtain ⟨u, rfl, ru⟩ := fz r
 cases ru
 obtain ⟨its, rv, p, hz⟩ := I.list hq
 have hl := p.isList
 have hlt : a < s.heap.objs.size := by obtain ⟨_, e, _⟩ := hl; exact Heap.lt_size e
 refine call_all_walk (wpAny_pyIter_list hl ?_)
 refine ⟨s.heap.objs.size, [s.heap.objs.size, a], [s.heap.objs.size], its.toArray.size, _, _, fun i => (bs[i]?).getD true, rfl, Walks.list (A := X.A.in1) (I.ok.hd hc) _ a (Nat.ne_of_lt hlt) its.toArray,
  ⟨⟨_, Heap.get?_push_size _ rfl, rfl, rfl⟩, hl.push _⟩, fun i v s' Q' E' hP hQ => ?_, fun h' tk hk => ?_⟩
 ·obtain ⟨b, e, rfl⟩ := jd rv i v (by simpa using hP)
  simp only [e, Option.getD_some] at hQ
  exact wpAny_truthy_bool hQ
 ·have hlen := rv.length
  have e : ((List.range its.toArray.size).all fun i => (bs[i]?).getD true) = bs.all id := by
   rw [List.size_toArray, <- hlen, List.length_map, Bool.eq_iff_iff, List.all_eq_true, List.all_eq_true]
   constructor
   ·intro z b hb
    obtain ⟨i, hi, rfl⟩ := List.getElem_of_mem hb
    have := z i (List.mem_range.mpr hi)
    simpa [hi] using this
   ·intro z i hi
    have hi' := List.mem_range.mp hi
    rw [List.getElem?_eq_getElem hi']
    exact z _ (List.getElem_mem hi')
  rw [e]
  exact ⟨.bl _, H, I.kept (fM hk), rfl, q⟩
theorem sr (hc : X.calm = true) : de X (.builtin "any") (fun xs H Q => ∃ (a : Addr) (bs : List Bool), xs = [.ref a] /\ SqL X.K H a (bs.map V.bl) /\ Q (.bl (bs.any id)) H) := by
 intro pins s σ H xs us Q I r h
 obtain ⟨a, bs, rfl, hq, q⟩ := h
 obtain ⟨u, rfl, ru⟩ := fz r
 cases ru
 obtain ⟨its, rv, p, hz⟩ := I.list hq
 have hl := p.isList
 have hlt : a < s.heap.objs.size := by obtain ⟨_, e, _⟩ := hl; exact Heap.lt_size e
 refine call_any_walk (wpAny_pyIter_list hl ?_)
 refine ⟨s.heap.objs.size, [s.heap.objs.size, a], [s.heap.objs.size], its.toArray.size, _, _, fun i => (bs[i]?).getD false, rfl, Walks.list (A := X.A.in1) (I.ok.hd hc) _ a (Nat.ne_of_lt hlt) its.toArray,
  ⟨⟨_, Heap.get?_push_size _ rfl, rfl, rfl⟩, hl.push _⟩, fun i v s' Q' E' hP hQ => ?_, fun h' tk hk => ?_⟩
 ·obtain ⟨b, e, rfl⟩ := jd rv i v (by simpa using hP)
  simp only [e, Option.getD_some] at hQ
  exact wpAny_truthy_bool hQ
 ·have hlen := rv.length
  have e : ((List.range its.toArray.size).any fun i => (bs[i]?).getD false) = bs.any id := by
   rw [List.size_toArray, <- hlen, List.length_map, Bool.eq_iff_iff, List.any_eq_true, List.any_eq_true]
   constructor
   ·rintro ⟨i, hi, z⟩
    have hi' := List.mem_range.mp hi
    rw [List.getElem?_eq_getElem hi'] at z
    exact ⟨_, List.getElem_mem hi', z⟩
   ·rintro ⟨b, hb, z⟩
    obtain ⟨i, hi, rfl⟩ := List.getElem_of_mem hb
    exact ⟨i, List.mem_range.mpr hi, by rw [List.getElem?_eq_getElem hi]; exact z⟩
  rw [e]
  exact ⟨.bl _, H, I.kept (fM hk), rfl, q⟩
theorem tf : de X (.builtin "isinstance") (fun xs H Q => ∃ x t n b, xs = [x, .ty n] /\ fR X.K H x t /\ PySem.W.kitOne X.K t (.type n) = some b /\ Q (.bl b) H) := by
 intro pins s σ H xs us Q I r h
 obtain ⟨x, t, n, b, rfl, ty, e, q⟩ := h
 obtain ⟨u, w', rfl, rx, rn⟩ := pC r
 cases rn
 exact qA I rx ty e fun tk => ⟨.bl b, H, I.tok tk, rfl, q⟩
theorem pK : ∀ {ys : List Str} {us : List Value}, aU (ys.map V.str) us -> StrsAre us ys
 | [], _, .nil => .nil
 | y :: ys, u :: us, .cons r t => by
  obtain ⟨k, rfl⟩ := r
  exact .cons y k (pK t)
end
open PySem PySem.Spec PyProof.Rows PySem.W
section
variable {cmp : Nat -> Nat -> (Bool -> Shared -> Prop) -> Shared -> Prop} {lt : Nat -> Nat -> Bool} {n : Nat} {s : Shared}
structure Ord (cmp : Nat -> Nat -> (Bool -> Shared -> Prop) -> Shared -> Prop) (lt : Nat -> Nat -> Bool) (n : Nat) (s : Shared) : Prop where
 ask : ∀ i j C, i < n -> j < n -> i ≠ j -> C (lt i j) s -> cmp i j C s
 tr : ∀ i j k, lt i j = true -> lt j k = true -> lt i k = true
 tot : ∀ i j, i < n -> j < n -> i ≠ j -> lt i j = false -> lt j i = true
 asym : ∀ i j, lt i j = true -> lt j i = false
structure Re (n : Nat) (p : Array Nat) : Prop where
 size : p.size = n
 lt : ∀ i, i < n -> p.getD i 0 < n
 inj : ∀ i j, i < n -> j < n -> i ≠ j -> p.getD i 0 ≠ p.getD j 0
 perm : p.Perm (List.toArray (List.range n))
theorem Re.of_perm {p : Array Nat} (h : p.Perm (List.toArray (List.range n))) : Re n p := by
 have hs : p.size = n := by have := h.size_eq; simpa using this
 have hl : p.toList.Perm (List.range n) := by simpa using Array.perm_iff_toList_perm.mp h
 have nd : p.toList.Nodup := (List.Perm.nodup_iff hl).mpr List.nodup_range
 have get : ∀ i, (hi : i < n) -> p.getD i 0 = p.toList[i]'(by simpa [hs] using hi) := fun i hi => by
  simp [Array.getD, hs, hi]
 refine ⟨hs, fun i hi => ?_, fun i j hi hj hij e => ?_, h⟩
 ·have hm : p.getD i 0 ∈ p.toList := by rw [get i hi]; exact List.getElem_mem _
  exact List.mem_range.mp ((List.Perm.mem_iff hl).mp hm)
 ·rw [get i hi, get j hj] at e
  exact hij ((List.getElem_inj nd).mp e)
def Up (lt : Nat -> Nat -> Bool) (p : Array Nat) (m : Nat) : Prop := ∀ i j, i < j -> j < m -> lt (p.getD i 0) (p.getD j 0) = true
def Dn (lt : Nat -> Nat -> Bool) (p : Array Nat) (m : Nat) : Prop := ∀ i j, i < j -> j < m -> lt (p.getD j 0) (p.getD i 0) = true
theorem Up.next {p : Array Nat} {m : Nat} (O : Ord cmp lt n s) (h : Up lt p m) (h1 : 1 <= m) (hq : lt (p.getD (m - 1) 0) (p.getD m 0) = true) : Up lt p (m + 1) := fun i j hij hj => by
 by_cases e : j = m
 ·subst e
  by_cases e2 : i = j - 1
  ·subst e2; exact hq
  ·exact O.tr _ _ _ (h i (j - 1) (by omega) (by omega)) hq
 ·exact h i j hij (by omega)
theorem Dn.next {p : Array Nat} {m : Nat} (O : Ord cmp lt n s) (h : Dn lt p m) (h1 : 1 <= m) (hq : lt (p.getD m 0) (p.getD (m - 1) 0) = true) : Dn lt p (m + 1) := fun i j hij hj => by
 by_cases e : j = m
 ·subst e
  by_cases e2 : i = j - 1
  ·subst e2; exact hq
  ·exact O.tr _ _ _ hq (h i (j - 1) (by omega) (by omega))
 ·exact h i j hij (by omega)
theorem og {p : Array Nat} {Q : Nat -> Shared -> Prop} (O : Ord cmp lt n s) (r : Re n p) : ∀ (f m : Nat), 1 <= m -> m + f <= n -> Up lt p m -> (∀ m', m <= m' -> m' <= m + f -> Up lt p m' -> (m' = m + f \/ lt (p.getD m' 0) (p.getD (m' - 1) 0) = true) -> Q m' s) -> (kas_asc p f m).kasWp cmp Q s
 | 0, m, h1, hm, u, q => q m (Nat.le_refl _) (Nat.le_refl _) u (.inl rfl)
 | f + 1, m, h1, hm, u, q => by
  show cmp _ _ _ s
  refine O.ask _ _ _ (r.lt m (by omega)) (r.lt (m - 1) (by omega)) (r.inj _ _ (by omega) (by omega) (by omega)) ?_
  cases c : lt (p.getD m 0) (p.getD (m - 1) 0) with
  | true =>
   show (KasT.ret m).kasWp cmp Q s
   exact q m (Nat.le_refl _) (by omega) u (.inr c)
  | false =>
   show (kas_asc p f (m + 1)).kasWp cmp Q s
   have hq := O.tot _ _ (r.lt m (by omega)) (r.lt (m - 1) (by omega)) (r.inj _ _ (by omega) (by omega) (by omega)) c
   refine og O r f (m + 1) (by omega) (by omega) (u.next O h1 hq) fun m' a b c d => q m' (by omega) (by omega) c ?_
   rcases d with d | d
   ·exact .inl (by omega)
   ·exact .inr d
theorem pB {p : Array Nat} {Q : Array Nat × Nat × Nat -> Shared -> Prop} (O : Ord cmp lt n s) (r : Re n p) : ∀ (f m : Nat), 1 <= m -> m + f <= n -> Dn lt p m -> (∀ m', m <= m' -> m' <= m + f -> Dn lt p m' -> Q (p, m', 0) s) -> (kas_desc f p m 0).kasWp cmp Q s
 | 0, m, h1, hm, u, q => q m (Nat.le_refl _) (Nat.le_refl _) u
 | f + 1, m, h1, hm, u, q => by
  show cmp _ _ _ s
  refine O.ask _ _ _ (r.lt m (by omega)) (r.lt (m - 1) (by omega)) (r.inj _ _ (by omega) (by omega) (by omega)) ?_
  cases c : lt (p.getD m 0) (p.getD (m - 1) 0) with
  | true =>
   show (kas_desc f p (m + 1) 0).kasWp cmp Q s
   exact pB O r f (m + 1) (by omega) (by omega) (u.next O h1 c) fun m' a b c => q m' (by omega) (by omega) c
  | false =>
   show cmp _ _ _ s
   refine O.ask _ _ _ (r.lt (m - 1) (by omega)) (r.lt m (by omega)) (r.inj _ _ (by omega) (by omega) (by omega)) ?_
   rw [O.tot _ _ (r.lt m (by omega)) (r.lt (m - 1) (by omega)) (r.inj _ _ (by omega) (by omega) (by omega)) c]
   show (KasT.ret (p, m, 0)).kasWp cmp Q s
   exact q m (Nat.le_refl _) (by omega) u
theorem oN {p : Array Nat} {m k : Nat} (hm : m <= p.size) : (kas_rev p 0 m).getD k 0 = if k < m then p.getD (m - 1 - k) 0 else p.getD k 0 := by
 have h := getElem?_mirror_all (xs := p) (i := 0) (j := m) hm k
 have e1 : ∀ (a : Array Nat) (i : Nat), a.getD i 0 = (a[i]?).getD 0 := fun a i => by rw [Array.getD_eq_getD_getElem?]
 rw [e1]
 unfold kas_rev
 rw [h]
 by_cases hk : k < m
 ·rw [if_pos hk]
  simp only [e1]
  rw [if_pos (by omega)]
  congr 2
  omega
 ·rw [if_neg hk]
  simp only [e1]
  rw [if_neg (by omega)]
theorem rH {p : Array Nat} {m : Nat} (r : Re n p) : Re n (kas_rev p 0 m) := Re.of_perm ((mirror_perm p 0 m _).trans r.perm)
theorem rG {Q : Nat × Array Nat -> Shared -> Prop} {p : Array Nat} (O : Ord cmp lt n s) (r : Re n p) (h2 : 2 <= n) (q : ∀ m p', Re n p' -> 1 <= m -> m <= n -> Up lt p' m -> Q (m, p') s) : (kas_count n p).kasWp cmp Q s := by
 unfold kas_count
 rw [KasT.kasWp_bind]
 refine og O r (n - 1) 1 (Nat.le_refl _) (by omega) (fun i j h1 h2 => by omega) fun m a b u e => ?_
 by_cases hm : (m == n) = true
 ·rw [if_pos hm]
  exact q m p r a (by omega) u
 ·rw [if_neg hm]
  have hmn : m ≠ n := by simpa using hm
  by_cases h1 : m > 1
  ·rw [if_pos h1]
   show cmp _ _ _ s
   refine O.ask _ _ _ (r.lt 0 (by omega)) (r.lt (m - 1) (by omega)) (r.inj _ _ (by omega) (by omega) (by omega)) ?_
   rw [u 0 (m - 1) (by omega) (by omega)]
   show (KasT.ret (m, p)).kasWp cmp Q s
   exact q m p r a (by omega) u
  ·rw [if_neg h1]
   have e1 : m = 1 := by omega
   subst e1
   have hd : lt (p.getD 1 0) (p.getD 0 0) = true := by
    rcases e with e | e
    ·omega
    ·exact e
   unfold kas_descPart
   rw [KasT.kasWp_bind]
   refine pB O r (n - (1 + 1)) (1 + 1) (by omega) (by omega) (fun i j h1 h2 => ?_) fun m' a' b' dn => ?_
   ·have : i = 0 := by omega
    have : j = 1 := by omega
    subst_vars
    exact hd
   ·show (if (0 : Nat) > 0 then _ else kas_tail3 m' n p).kasWp cmp Q s
    rw [if_neg (by omega)]
    unfold kas_tail3
    rw [KasT.kasWp_bind]
    have up : Up lt (kas_rev p 0 m') m' := fun i j hij hj => by
     rw [oN (by rw [r.size]; omega), oN (by rw [r.size]; omega), if_pos (by omega), if_pos (by omega)]
     exact dn _ _ (by omega) (by omega)
    refine og O (rH r) (n - m') m' (by omega) (by omega) up fun m2 a2 b2 u2 _ => ?_
    exact q m2 _ (rH r) (by omega) (by omega) u2
theorem iI {p : Array Nat} {k : Nat} {Q : Nat -> Shared -> Prop} (O : Ord cmp lt n s) (r : Re n p) (hk : k < n) (u : Up lt p k) (q : ∀ l, l <= k -> (∀ i, i < l -> lt (p.getD i 0) (p.getD k 0) = true) -> (∀ i, l <= i -> i < k -> lt (p.getD k 0) (p.getD i 0) = true) -> Q l s) :
  ∀ (f l e : Nat), l <= e -> e <= k -> e - l <= f -> (∀ i, i < l -> lt (p.getD i 0) (p.getD k 0) = true) -> (∀ i, e <= i -> i < k -> lt (p.getD k 0) (p.getD i 0) = true) -> (kas_place p k f l e).kasWp cmp Q s
 | 0, l, e, h1, h2, h3, a, b => q l (by omega) a fun i hi hk' => b i (by omega) hk'
 | f + 1, l, e, h1, h2, h3, a, b => by
  show (if l >= e then KasT.ret l else _).kasWp cmp Q s
  by_cases h : l >= e
  ·rw [if_pos h]
   exact q l (by omega) a fun i hi hk' => b i (by omega) hk'
  ·rw [if_neg h]
   show cmp _ _ _ s
   have hm : (l + e) / 2 < k := by omega
   refine O.ask _ _ _ (r.lt k hk) (r.lt _ (by omega)) (r.inj _ _ hk (by omega) (by omega)) ?_
   cases c : lt (p.getD k 0) (p.getD ((l + e) / 2) 0) with
   | true =>
    show (kas_place p k f l ((l + e) / 2)).kasWp cmp Q s
    refine iI O r hk u q f l _ (by omega) (by omega) (by omega) a fun i hi hk' => ?_
    by_cases ei : i = (l + e) / 2
    ·subst ei; exact c
    ·exact O.tr _ _ _ c (u _ i (by omega) hk')
   | false =>
    show (kas_place p k f ((l + e) / 2 + 1) e).kasWp cmp Q s
    have c' := O.tot _ _ (r.lt k hk) (r.lt _ (by omega)) (r.inj _ _ hk (by omega) (by omega)) c
    refine iI O r hk u q f _ e (by omega) h2 (by omega) (fun i hi => ?_) b
    by_cases ei : i = (l + e) / 2
    ·subst ei; exact c'
    ·exact O.tr _ _ _ (u i _ (by omega) hm) c'
theorem pc {p : Array Nat} {k d j : Nat} (hk : k < p.size) (hd : d <= k) : (bubble p k d).getD j 0 = if j < k - d \/ k < j then p.getD j 0 else if j = k - d then p.getD k 0 else p.getD (j - 1) 0 := by
 have e1 : ∀ (a : Array Nat) (i : Nat), a.getD i 0 = (a[i]?).getD 0 := fun a i => by rw [Array.getD_eq_getD_getElem?]
 have h := getElem?_bubble (xs := p) (src := k) hk d hd j
 rw [e1, h]
 by_cases a : j = k - d
 ·rw [if_pos a, if_neg (by omega), if_pos a, e1]
 ·rw [if_neg a]
  by_cases b : k - d < j /\ j <= k
  ·rw [if_pos b, if_neg (by omega), if_neg a, e1]
  ·rw [if_neg b, if_pos (by omega), e1]
theorem tX {Q : Array Nat -> Shared -> Prop} (O : Ord cmp lt n s) (q : ∀ p, Re n p -> Up lt p n -> Q p s) : ∀ (f k : Nat) (p : Array Nat), Re n p -> 1 <= k -> k + f = n -> Up lt p k -> (kas_bin f p k).kasWp cmp Q s
 | 0, k, p, r, h1, hn, u => q p r (by rw [<- hn]; exact u)
 | f + 1, k, p, r, h1, hn, u => by
  show ((kas_place p k k 0 k).bind fun l => kas_bin f (bubble p k (k - l)) (k + 1)).kasWp cmp Q s
  rw [KasT.kasWp_bind]
  refine iI O r (by omega) u (fun l hl a b => ?_) k 0 k (Nat.zero_le _) (Nat.le_refl _) (by omega) (fun i hi => by omega) (fun i h1 h2 => by omega)
  have hks : k < p.size := by rw [r.size]; omega
  refine tX O q f (k + 1) _ (Re.of_perm ((bubble_perm p k _).trans r.perm)) (by omega) (by omega) fun i j hij hj => ?_
  rw [pc hks (by omega), pc hks (by omega)]
  have ek : k - (k - l) = l := by omega
  rw [ek]
  by_cases hi : i < l
  ·rw [if_pos (.inl hi)]
   by_cases hj2 : j < l
   ·rw [if_pos (.inl hj2)]; exact u i j hij (by omega)
   ·rw [if_neg (by omega)]
    by_cases hj3 : j = l
    ·rw [if_pos hj3]; exact a i hi
    ·rw [if_neg hj3]; exact u i (j - 1) (by omega) (by omega)
  ·rw [if_neg (by omega)]
   by_cases hi2 : i = l
   ·rw [if_pos hi2, if_neg (by omega), if_neg (by omega)]
    exact b (j - 1) (by omega) (by omega)
   ·rw [if_neg hi2, if_neg (by omega), if_neg (by omega)]
    exact u (i - 1) (j - 1) (by omega) (by omega)
theorem kI {Q : Array Nat -> Shared -> Prop} (O : Ord cmp lt n s) (h2 : 2 <= n) (q : ∀ p, Re n p -> Up lt p n -> Q p s) : (kas_sort n).kasWp cmp Q s := by
 unfold kas_sort
 rw [KasT.kasWp_bind]
 refine rG O (Re.of_perm (Array.Perm.refl _)) h2 fun m p r h1 hm u => ?_
 show (if m < n then kas_bin (n - max m 1) p (max m 1) else .ret p).kasWp cmp Q s
 have em : max m 1 = m := by omega
 rw [em]
 by_cases h : m < n
 ·rw [if_pos h]
  exact tX O q (n - m) m p r h1 (by omega) u
 ·rw [if_neg h]
  have : m = n := by omega
  subst this
  exact q p r u
end
theorem dy {prog : Program} {w : World} {A : Around} {E : Value -> Shared -> Prop} {st : Shared} {l : Addr} {us : List Value} {ep : Nat} {R : PySem.Fin -> Shared -> Prop} (at0 : st.heap.get? l = some (seqObj "list" us.toArray ep)) (few : us.length < 2)
  (fin : ∀ hp ep', (∀ b o, b ≠ l -> st.heap.get? b = some o -> hp.get? b = some o) -> hp.get? l = some (seqObj "list" us.toArray ep') -> R (.done (.ret .none)) { st with heap := hp }) :
  wpAny (model prog w) A (Builtin.«list.sort» ⟨[.ref l], []⟩) R E st := by
 have sz : us.toArray.size = us.length := by simp
 have lt0 : l < st.heap.objs.size := Heap.lt_size at0
 have line : us.length <= sizeLine := by rw [sizeLine_eq]; omega
 rw [list_sort_plain]
 refine wpAny_bind (listItems_at at0 rfl (wpAny_bind (listUpdate_at at0 rfl ?_ (by rw [sz]; exact line) (Nat.zero_le _))))
 have at1 := get?_update_seq at0 (fun _ => (#[] : Array Value))
 refine wpAny_bind (seqEpoch_at at1 rfl (wpAny_bind (wpAny_newTuple ?_ (by show us.length <= _; exact line))))
 refine wpAny_bind (wpAny_newList ?_ (Nat.zero_le _))
 refine wpAny_holding ?_
 rw [if_pos (by rw [sz]; exact few), if_pos (by rw [sz]; exact few)]
 show wpAny (model prog w) A _ R E { st with heap := ((st.heap.update l (Obj.mapSeq fun _ => (#[] : Array Value))).push (seqObj "tuple" us.toArray 0)).push (seqObj "list" #[] 0) }
 have at2 : (((st.heap.update l (Obj.mapSeq fun _ => (#[] : Array Value))).push (seqObj "tuple" us.toArray 0)).push (seqObj "list" #[] 0)).get? l = some (seqObj "list" #[] (if ((#[] : Array Value).size == us.toArray.size) = true then ep else ep + 1)) := by
  rw [Heap.get?_push_ne _ _ _ (by rw [size_push', Heap.size_update]; exact kJ lt0), Heap.get?_push_ne _ _ _ (by rw [Heap.size_update]; exact nlt lt0)]
  exact at1
 have all : (arrOf (SortSt.mk' general' (us.toArray.zip us.toArray) #[] 7 none)).map (·.2) = us.toArray := by
  show (us.toArray.zip us.toArray).map (·.2) = us.toArray
  apply Array.ext'
  simp [List.map_snd_zip]
 have at3 := get?_update_seq at2 (fun _ => us.toArray)
 refine wpAny_bind (wpAny_pure ?_)
 dsimp only
 rw [StateT.run_pure]
 refine wpAny_bind (wpAny_pure ?_)
 dsimp only
 refine wpAny_bind (seqEpoch_at at2 rfl ?_)
 refine wpAny_bind (listUpdate_at at2 rfl ?_ (Nat.zero_le _) (by rw [all, sz]; omega))
 simp only [bne_self_eq_false, Bool.false_eq_true, if_false]
 rw [all]
 refine wpAny_pure (fin _ _ (fun b o hb e => ?_) at3)
 rw [Heap.get?_update_ne _ _ _ _ hb, Heap.get?_push_ne _ _ _ (by rw [size_push', Heap.size_update]; exact kJ (Heap.lt_size e)), Heap.get?_push_ne _ _ _ (by rw [Heap.size_update]; exact nlt (Heap.lt_size e)), Heap.get?_update_ne _ _ _ _ hb]
 exact e
theorem nC {prog : Program} {w : World} {A : Around} {E : Value -> Shared -> Prop} {st : Shared} {l : Addr} {us : List Value} {Q : Value -> Shared -> Prop} (at0 : st.heap.IsList l us.toArray) (few : us.length < 2)
  (fin : ∀ hp ep, (∀ b o, st.heap.get? b = some o -> hp.get? b = some o) -> hp.get? (st.heap.objs.size + 1) = some (seqObj "list" us.toArray ep) -> Q (.ref (st.heap.objs.size + 1)) { st with heap := hp }) :
  wpAny (model prog w) A (call (.builtin "sorted") [.ref l]) Q E st := by
 have line : us.length <= sizeLine := by rw [sizeLine_eq]; omega
 refine Calls.call_function_entry kind_sorted plain_sorted entry_sorted (args_sorted1 _) ?_
 unfold Builtin.«sorted»
 refine wpAny_bind (m := checkCount "sorted" 1 1 _) (wpAny_pure (wpAny_bind (collect_list at0 ?_ line)))
 refine wpAny_bind (wpAny_newList ?_ line)
 have z1 : ((st.heap.push (seqObj "list" #[] 0)).update st.heap.objs.size (Obj.mapSeq (· ++ us.toArray))).objs.size = st.heap.objs.size + 1 := by
  rw [Heap.size_update, size_push']
 have at1 : (((st.heap.push (seqObj "list" #[] 0)).update st.heap.objs.size (Obj.mapSeq (· ++ us.toArray))).push (seqObj "list" us.toArray 0)).get? (st.heap.objs.size + 1) = some (seqObj "list" us.toArray 0) := by
  rw [<- z1]; exact Heap.get?_push_size _ rfl
 have kp : ∀ b o, st.heap.get? b = some o -> (((st.heap.push (seqObj "list" #[] 0)).update st.heap.objs.size (Obj.mapSeq (· ++ us.toArray))).push (seqObj "list" us.toArray 0)).get? b = some o := fun b o e => by
  rw [Heap.get?_push_ne _ _ _ (by rw [z1]; exact kJ (Heap.lt_size e)), Heap.get?_update_ne _ _ _ _ (nlt (Heap.lt_size e)), Heap.get?_push_ne _ _ _ (nlt (Heap.lt_size e))]
  exact e
 show wpAny _ _ _ _ _ { st with heap := ((st.heap.push (seqObj "list" #[] 0)).update st.heap.objs.size (Obj.mapSeq (· ++ us.toArray))).push (seqObj "list" us.toArray 0) }
 rw [z1]
 refine wpAny_bind (wpAny_holding (wpAny_call_entry slot_list_sort ⟨_, at1, rfl⟩ entry_list_sort (dy (st := { st with heap := ((st.heap.push (seqObj "list" #[] 0)).update st.heap.objs.size (Obj.mapSeq (· ++ us.toArray))).push (seqObj "list" us.toArray 0) }) at1 few fun hp ep k2 e2 => ⟨_, rfl, ?_⟩) (args_list_sort _)))
 exact wpAny_pure ⟨_, rfl, fin hp ep (fun b o e => k2 b o (kJ (Heap.lt_size e)) (kp b o e)) e2⟩
theorem sO {h : Heap} {a : Addr} {m m' : Str -> Option Value} (x : h.Ns a m) (y : h.Ns a m') : m = m' := by
 obtain ⟨o, es, ep, e, d, _, f⟩ := x
 obtain ⟨o', es', ep', e', d', _, f'⟩ := y
 rw [e] at e'
 cases e'
 rw [d] at d'
 cases d'
 funext z
 rw [<- f z, f' z]
theorem kG {a b : List Nat} (h : ¬ a < b) (h2 : a ≠ b) : b < a := by
 by_cases h3 : b < a
 ·exact h3
 ·exact absurd (List.le_antisymm (List.not_lt.mp h3) (List.not_lt.mp h)) h2
theorem kN {a b : Str} (h : a.cps.toList = b.cps.toList) : a = b := by
 cases a
 cases b
 congr 1
 exact Array.ext' h
theorem bg.live {P : Program} {w : World} {H : Hp} {h : Heap} {a : Addr} {o : HO} (x : bg P w H h a o) : ∃ ob, h.get? a = some ob := by
 cases o with
 | lst xs => obtain ⟨_, _, _, _, e⟩ := x; exact ⟨_, e⟩
 | tup xs => obtain ⟨_, _, _, ⟨ob, e, _⟩, _⟩ := x; exact ⟨_, e⟩
 | dK kvs => obtain ⟨_, _, _, _, ob, _, _, e, _⟩ := x; exact ⟨_, e⟩
 | dT kvs => obtain ⟨_, _, _, _, ob, _, _, e, _⟩ := x; exact ⟨_, e⟩
 | set S n => obtain ⟨ob, _, _, _, e, _⟩ := x; exact ⟨_, e⟩
 | ins C dx fs => obtain ⟨_, _, _, e, _⟩ := x; exact ⟨_, e⟩
 | own y => obtain ⟨_, e⟩ := x; exact ⟨_, e⟩
 | xd fs => obtain ⟨_, ⟨_, _, _, e, _⟩, _⟩ := x; exact ⟨_, e⟩
 | rng lo hi => obtain ⟨_, _, _, e⟩ := x; exact ⟨_, e⟩
 | frz ob u => obtain ⟨e, _⟩ := x; exact ⟨_, e⟩
 | tbl ps => exact ⟨_, (show h.get? a = some _ from x)⟩
 | met f y => exact ⟨_, (show h.get? a = some _ from x)⟩
 | ext φ => obtain ⟨_, ⟨_, e⟩, _⟩ := x; exact ⟨_, e⟩
section
variable {X : Cx} {pins : List (Addr × Obj)} {σ : St} {H : Hp} {s : Shared}
theorem Inv.newList {D : Addr} {ys : List V} {its : List Value} {c : Nat} {h' : Heap} {m : Str -> Option Value} (I : Inv X pins σ H s) (hm : s.heap.Ns X.env.locals m) (hn : H D = none) (hG : s.heap.get? D = none) (rv : aU ys its) (hz : ys.length <= sizeLine)
  (F : h'.Ns X.env.locals m) (k : ∀ b o, b ≠ X.env.locals -> s.heap.get? b = some o -> h'.get? b = some o) (e : h'.get? D = some { cls := .type "list", data := .seq its.toArray c }) : Inv X pins σ (upd H D (.lst ys)) { s with heap := h' } := by
 have nl : ∀ b v, H b = some v -> b ≠ X.env.locals := fun b v q z => by rw [z, I.free] at q; cases q
 refine I.step (g' := s.gens) (d' := s.drawn) (t' := s.toks) (ch := []) (fun b hb => by cases hb) (fun b o hL _ _ q _ => k b o hL q) (fun b o hL _ _ q _ => ⟨o.slots, k b o hL q⟩) (fun b o _ q n => ?_) (fun b o _ q => ?_)
  (fun b xs q => by rw [aq (ai q hn)]; exact q) (fun b o v q => by rw [aq (ai q hn)]; exact q) (fun b ps q => ⟨#[], by rw [aq (ai q hn), q]; simp⟩) (fun m' hm' => by rw [sO hm' hm]; exact F) (fun b v q => ?_) I.bare
 ·rw [aq (fun z => by rw [z, hG] at q; cases q)]; exact n
 ·by_cases hb : b = X.env.locals
  ·subst hb
   obtain ⟨o', _, _, q', _⟩ := F
   exact ⟨o', q'⟩
  ·exact ⟨o, k b o hb q⟩
 ·by_cases hb : b = D
  ·subst hb
   rw [ab] at q
   cases q
   exact ⟨hz, its, c, rv, e⟩
  ·rw [aq hb] at q
   refine (I.hok b v q).stay (fun c w' hc q' => ?_) (fun c q' => by rw [aq (ai q' hn)]; exact q') fun c xs q' => by rw [aq (ai q' hn)]; exact q'
   rcases hc with z | z
   ·subst z; exact k c w' (nl c v q) q'
   ·exact k c w' (nl c _ z) q'
abbrev TK := Addr × Str × List V
def qt (p q : TK) : Prop := p.2.1.cps.toList < q.2.1.cps.toList
theorem pQ (ps : List TK) : ∀ (us : List Value), aU (ps.map fun p => V.ref p.1) us -> us = ps.map fun p => Value.ref p.1 := by
 induction ps with
 | nil =>
  intro us r
  cases r
  rfl
 | cons p ps ih =>
  intro us r
  rw [List.map_cons] at r ⊢
  cases r with
  | cons r t =>
   rw [ih _ t, show _ = Value.ref p.1 from r]
theorem dM (ps : List TK) : aU (ps.map fun p => V.ref p.1) (ps.map fun p => Value.ref p.1) := by
 induction ps with
 | nil => exact .nil
 | cons p ps ih => exact .cons rfl ih
theorem kB (I : Inv X pins σ H s) {a : Addr} {x : Str} {r : List V} (h : H a = some (.tup (.str x :: r))) : ∃ (o : Obj) (us : List Value) (n : Nat) (t : Tok), s.heap.get? a = some o /\ o.cls = .type "tuple" /\ o.data = .seq (Value.str x t :: us).toArray n := by
 obtain ⟨_, its, rv, ⟨o, e, c, n, d⟩, _⟩ := (show bg X.prog X.w H s.heap a (.tup (.str x :: r)) from I.hok a _ h)
 cases rv with
 | cons r1 r2 =>
  obtain ⟨t, rfl⟩ := r1
  exact ⟨o, _, n, t, e, c, d⟩
theorem gI {n : Nat} {p : Array Nat} {α : Type} {d : α} {ps : List α} (hn : ps.length = n) (r : Re n p) : (p.toList.map fun i => ps.getD i d).Perm ps := by
 have hl : p.toList.Perm (List.range n) := by simpa using Array.perm_iff_toList_perm.mp r.perm
 refine (hl.map _).trans ?_
 have e : (List.range n).map (fun i => ps.getD i d) = ps := by
  apply List.ext_getElem?
  intro i
  rw [List.getElem?_map]
  by_cases hi : i < n
  ·rw [List.getElem?_range hi]
   simp [List.getD, show i < ps.length by omega]
  ·rw [List.getElem?_eq_none (by simpa using hi), List.getElem?_eq_none (by omega)]
   rfl
 rw [e]
theorem du {n : Nat} {p : Array Nat} {α : Type} {d : α} {ps : List α} {R : α -> α -> Prop} {lt : Nat -> Nat -> Bool} (hlt : ∀ i j, i < n -> j < n -> lt i j = true -> R (ps.getD i d) (ps.getD j d)) (r : Re n p) (u : Up lt p n) : (p.toList.map fun i => ps.getD i d).Pairwise R := by
 rw [List.pairwise_iff_getElem]
 intro i j hi hj hij
 rw [List.length_map, Array.length_toList, r.size] at hi hj
 have get : ∀ k (hk : k < n) h, (p.toList.map fun i => ps.getD i d)[k]'h = ps.getD (p.getD k 0) d := fun k hk h => by
  rw [List.getElem_map]
  congr 1
  simp [Array.getD, r.size, hk]
 rw [get i hi, get j hj]
 exact hlt _ _ (r.lt i hi) (r.lt j hj) (u i j hij hj)
theorem lH : de X (.builtin "sorted") (fun xs H Q => ∃ (a : Addr) (ps : List TK), xs = [.ref a] /\ SqL X.K H a (ps.map fun p => V.ref p.1) /\ (∀ p ∈ ps, H p.1 = some (.tup (.str p.2.1 :: p.2.2))) /\ (ps.map (·.2.1)).Nodup /\ ps.length < 64 /\
  ∀ (qs : List TK) (l : Addr), qs.Perm ps -> qs.Pairwise qt -> H l = none -> Q (.ref l) (upd H l (.lst (qs.map fun p => V.ref p.1)))) := by
 intro pins s σ H xs us Q I r h
 obtain ⟨a, ps, rfl, hq, ht, nd, h64, q⟩ := h
 obtain ⟨u, rfl, ru⟩ := fz r
 cases ru
 obtain ⟨its, rv, pl, hz⟩ := I.list hq
 have ei := pQ ps its rv
 subst ei
 have hl := pl.isList
 obtain ⟨m, hm, _⟩ := I.loc
 by_cases few : ps.length < 2
 ·refine nC hl (by simpa using few) fun hp ep k e => ?_
  have I2 := I.newList (D := s.heap.objs.size + 1) (ys := ps.map fun p => V.ref p.1) hm (I.hok.fresh (Nat.le_succ _)) (Heap.get?_none_of_le (Nat.le_succ _)) (dM ps) hz (hm.keeps k) (fun b o _ z => k b o z) e
  refine ⟨.ref _, _, I2, rfl, q ps _ (List.Perm.refl _) ?_ (I.hok.fresh (Nat.le_succ _))⟩
  match ps, few with
  | [], _ => exact .nil
  | [p], _ => exact List.pairwise_singleton _ _
 ·have hlen : (ps.map fun p => Value.ref p.1).length = ps.length := List.length_map _
  have F0 : Fr (Att.noObjs s.heap) X.env.locals s.heap m := Att.fr_all hm
  have N0 : News (Att.noObjs s.heap) X.env.locals s.heap (cJ (Att.noObjs s.heap) s.heap X.env.locals) := iG
  refine kat_sorted F0 N0 hl (by rw [hlen]; omega) (by rw [hlen]; exact h64) fun D e1 h' F' N' lD => ?_
  have keep : ∀ (g : Heap) (x : Obj), News (Att.noObjs s.heap) X.env.locals g ((D, x) :: cJ (Att.noObjs s.heap) s.heap X.env.locals) -> ∀ b o, b ≠ X.env.locals -> s.heap.get? b = some o -> g.get? b = some o := fun g x N b o hb e =>
   (N (b, o) (List.mem_cons_of_mem _ (dj hb (Att.noObjs_get _ _) e))).1
  have kp := keep h' _ N'
  have atv : ∀ i, i < ps.length -> (ps.map fun p => Value.ref p.1).getD i .none = Value.ref (ps.getD i (0, default, [])).1 := fun i hi => by
   simp [List.getD, hi]
  have item : ∀ i, i < ps.length -> ∃ (o : Obj) (us : List Value) (n : Nat) (t : Tok), h'.get? (ps.getD i (0, default, [])).1 = some o /\ o.cls = .type "tuple" /\ o.data = .seq (Value.str (ps.getD i (0, default, [])).2.1 t :: us).toArray n := fun i hi => by
   have hm' : ps.getD i (0, default, []) ∈ ps := by
    have e : ps.getD i (0, default, []) = ps[i] := by simp [List.getD, hi]
    rw [e]; exact List.getElem_mem hi
   obtain ⟨o, us, n, t, e, c, d⟩ := kB I (ht _ hm')
   exact ⟨o, us, n, t, kp _ o (fun z => by have := ht _ hm'; rw [z, I.free] at this; cases this) e, c, d⟩
  have firsts : ∀ (qs : List TK), (∀ p ∈ qs, p ∈ ps) -> ∃ fs : List Value, KatTups h' (qs.map fun p => Value.ref p.1) fs /\ fs.length = qs.length /\ ∀ v ∈ fs, ∃ x t, v = Value.str x t := by
   intro qs
   induction qs with
   | nil => intro _; exact ⟨[], KatTups.nil, rfl, by simp⟩
   | cons p qs ih =>
    intro hs
    obtain ⟨fs, t1, t2, t3⟩ := ih fun x hx => hs x (List.mem_cons_of_mem _ hx)
    have hp := hs p List.mem_cons_self
    obtain ⟨o, us, n, t, e, c, d⟩ := kB I (ht _ hp)
    refine ⟨Value.str p.2.1 t :: fs, KatTups.cons (kp _ o (fun z => by have := ht _ hp; rw [z, I.free] at this; cases this) e) c d (by simp) t1, by simp [t2], fun v hv => ?_⟩
    rcases List.mem_cons.mp hv with rfl | hv
    ·exact ⟨_, _, rfl⟩
    ·exact t3 v hv
  obtain ⟨fs, t1, t2, t3⟩ := firsts ps fun p hp => hp
  refine kat_kind (T := .type "str") (s := { s with heap := h' }) t1 (by rw [t2]; omega) (fun v hv => ?_) (by decide) ?_
  ·obtain ⟨x, t, rfl⟩ := t3 v hv
   exact Looks.of_pure rfl
  rw [hlen]
  have O : Ord (kas_ask X.prog X.w X.A.in1.in1 (tuples' (Value.type "str" != Value.type "tuple")) (ps.map fun p => Value.ref p.1)) (fun i j => decide ((ps.getD i (0, default, [])).2.1.cps.toList < (ps.getD j (0, default, [])).2.1.cps.toList)) ps.length { s with heap := h' } := by
   have unlike : ∀ i j, i < ps.length -> j < ps.length -> i ≠ j -> (ps.getD i (0, default, [])).2.1 ≠ (ps.getD j (0, default, [])).2.1 := fun i j hi hj hij e => by
    have ei : ps.getD i (0, default, []) = ps[i] := by simp [List.getD, hi]
    have ej : ps.getD j (0, default, []) = ps[j] := by simp [List.getD, hj]
    rw [ei, ej] at e
    exact hij ((List.getElem_inj (h₀ := by simpa using hi) (h₁ := by simpa using hj) nd).mp (by simpa using e))
   refine ⟨fun i j C hi hj hij hC => ?_, fun i j k h1 h2 => ?_, fun i j hi hj hij h1 => ?_, fun i j h1 => ?_⟩
   ·show wpAny _ _ (keyLt' _ _ _) C _ _
    rw [atv i hi, atv j hj]
    obtain ⟨o, us, n, t, e, c, d⟩ := item i hi
    obtain ⟨o2, us2, n2, t2', e2, c2, d2⟩ := item j hj
    refine kat_lt (s := { s with heap := h' }) e d e2 d2 ?_
    show KatLex _ _ _ _ _ _ ((Value.str _ t, Value.str _ t2') :: _) 0 _
    refine kat_cons (wpAny_eqBool_str ?_)
    rw [decide_eq_false (unlike i j hi hj hij)]
    exact kat_no (oneLt_str hC)
   ·exact decide_eq_true (List.lt_trans (of_decide_eq_true h1) (of_decide_eq_true h2))
   ·exact decide_eq_true (kG (of_decide_eq_false h1) fun e => unlike i j hi hj hij (kN e))
   ·exact decide_eq_false (List.lt_asymm (of_decide_eq_true h1))
  refine kI O (by omega) fun p re up => ?_
  have outs : (p.toList.map fun i => (ps.map fun p => Value.ref p.1).getD i .none) = (p.toList.map fun i => ps.getD i (0, default, [])).map fun p => Value.ref p.1 := by
   rw [List.map_map]
   refine List.map_congr_left fun i hi => ?_
   have hl2 : p.toList.Perm (List.range ps.length) := by simpa using Array.perm_iff_toList_perm.mp re.perm
   exact atv i (List.mem_range.mp ((List.Perm.mem_iff hl2).mp hi))
  rw [outs]
  have nL : D ≠ X.env.locals := (N' (D, _) List.mem_cons_self).2.1
  have hG : s.heap.get? D = none := by
   cases e : s.heap.get? D with
   | none => rfl
   | some o => exact absurd (lD (D, o) (dj nL (Att.noObjs_get _ _) e)) (Nat.lt_irrefl _)
  have hn : H D = none := by
   cases e : H D with
   | none => rfl
   | some u =>
    obtain ⟨o, e'⟩ := (I.hok D u e).live
    rw [hG] at e'
    cases e'
  refine KasFin.intro (news := (D, seqObj "list" #[] e1) :: cJ (Att.noObjs s.heap) s.heap X.env.locals) (g := fun o' => (D, o') :: cJ (Att.noObjs s.heap) s.heap X.env.locals) F' N' (.head fun q hq => nlt (lD q hq)) fun h2 c F2 N2 => ?_
  have pq := gI (d := (0, default, [])) rfl re
  have I2 := I.newList (D := D) (ys := (p.toList.map fun i => ps.getD i (0, default, [])).map fun p => V.ref p.1) hm hn hG (dM _) (by rw [List.length_map, pq.length_eq]; simpa using hz) F2.ns (keep h2 _ N2) (N2 (D, _) List.mem_cons_self).1
  exact ⟨.ref D, _, I2, rfl, q _ D pq (du (R := qt) (fun i j _ _ h => (of_decide_eq_true h : (ps.getD i (0, default, [])).2.1.cps.toList < (ps.getD j (0, default, [])).2.1.cps.toList)) re up) hn⟩
end
open PySem PySem.Spec PyProof.Rows
def wJ (N : List Str) (sc scope : Scope) (ix : List Nat) : Bool :=
 decide (scope.kind = .function) && scope.names.all (fun y => decide (y.2 ≠ .cell)) && scope.names.all (fun y => decide (y.2 = .local -> scope.names.lookup y.1 = some .local)) &&
 scope.names.all (fun y => decide (y.2 = .free -> sc.names.lookup y.1 = some .cell \/ sc.names.lookup y.1 = some .free)) &&
 ix.all (fun j => decide (j < N.length) && match N[j]? with | some x => scope.names.any (fun y => decide (y.1 = x) && decide (y.2 = .free)) && decide (scope.names.lookup x = some .free) | none => false)
theorem df.of {N : List Str} {sc scope : Scope} {own : List Str} {ix : List Nat} (h : wJ N sc scope ix = true) : df N sc scope own ix := by
 unfold wJ at h
 simp only [Bool.and_eq_true, decide_eq_true_eq, List.all_eq_true] at h
 obtain ⟨⟨⟨⟨h1, h2⟩, h3⟩, h4⟩, h5⟩ := h
 refine ⟨h1, h2, h3, h4, fun j hj x hx => ?_, fun j hj => (h5 j hj).1⟩
 have := (h5 j hj).2
 rw [hx] at this
 simp only [Bool.and_eq_true, decide_eq_true_eq, List.any_eq_true] at this
 obtain ⟨⟨⟨n, k⟩, hy, e1, e2⟩, e3⟩ := this
 have e1' : n = x := e1
 have e2' : k = .free := e2
 subst e1' e2'
 exact ⟨hy, e3⟩
theorem bL {l N : List Str} (h : l.Nodup) (e : N = l) : N.Nodup := by rw [e]; exact h
structure Def (P : Program) (w : World) (K : PySem.W.Frag) (mg : Str -> Option Value) (base : Heap) (k : Nat) (x : Str) (ps : List Str) (sp : Sp) : Prop where
 ex : ∃ f fd, br P w K mg base CX0 k f fd ps sp /\ fw K fd ps [] /\ PySem.W.keepIn K (.ref f) = true /\ mg x = some (.ref f)
theorem Def.up {P : Program} {w : World} {K : PySem.W.Frag} {mg : Str -> Option Value} {base : Heap} {j k : Nat} {x : Str} {ps : List Str} {sp : Sp} (d : Def P w K mg base j x ps sp) (h : j <= k) : Def P w K mg base k x ps sp :=
 let ⟨f, fd, F, b, kp, m⟩ := d.ex
 ⟨f, fd, F.mono h, b, kp, m⟩
theorem aI {X : Cx} {k : Nat} {x : Str} {ps : List Str} {sp : Sp} {p pos : Pos} {e : Expr} {es : List Expr} {t : TA} (d : Def X.prog X.w X.K X.mg X.base k x ps sp) (hr : cR k X.A) (hg : Gl X x) (ha : PA X (e :: es) t) (hdb : (x == ("__debug__" : Str)) = false := by decide)
  (he : starEach (e :: es) X.env = (false, eval e X.env) :: starEach es X.env := by rfl) (hpl : (backTo pos (starEach es X.env)).any (·.1) = false := by rfl) : PE X (.Call (.Name x p) (e :: es) [] pos) (sM sp [] E0 t) := by
 obtain ⟨f, fd, F, b, kp, m⟩ := d.ex
 exact pi F hr hg m kp b .nil tu ha hdb he hpl
inductive Dv where
 | non | bl (b : Bool) | int (i : Int) | str (x : Str) | tup (xs : List Dv) | lst (xs : List Dv) | dct
mutual
def Rep (H : Hp) : Dv -> V -> Prop
 | .non, v => v = .non
 | .bl b, v => v = .bl b
 | .int i, v => v = .int i
 | .str x, v => v = .str x
 | .tup ds, v => ∃ a vs, v = .ref a /\ H a = some (.tup vs) /\ Reps H ds vs
 | .lst ds, v => ∃ a vs, v = .ref a /\ H a = some (.lst vs) /\ Reps H ds vs
 | .dct, v => ∃ a, v = .ref a /\ H a = some (.dK [])
def Reps (H : Hp) : List Dv -> List V -> Prop
 | [], vs => vs = []
 | d :: ds, vs => ∃ v r, vs = v :: r /\ Rep H d v /\ Reps H ds r
end
mutual
theorem Rep.mono {H H' : Hp} (s : ao H H') : ∀ {d : Dv} {v : V}, Rep H d v -> Rep H' d v
 | .non, _, h => by simpa only [Rep] using h
 | .bl b, _, h => by simpa only [Rep] using h
 | .int i, _, h => by simpa only [Rep] using h
 | .str x, _, h => by simpa only [Rep] using h
 | .tup ds, _, h => by
  simp only [Rep] at h ⊢
  obtain ⟨a, vs, e, h1, h2⟩ := h
  exact ⟨a, vs, e, s _ _ h1, Reps.mono s h2⟩
 | .lst ds, _, h => by
  simp only [Rep] at h ⊢
  obtain ⟨a, vs, e, h1, h2⟩ := h
  exact ⟨a, vs, e, s _ _ h1, Reps.mono s h2⟩
 | .dct, _, h => by
  simp only [Rep] at h ⊢
  obtain ⟨a, e, h1⟩ := h
  exact ⟨a, e, s _ _ h1⟩
theorem Reps.mono {H H' : Hp} (s : ao H H') : ∀ {ds : List Dv} {vs : List V}, Reps H ds vs -> Reps H' ds vs
 | [], _, h => by simpa only [Reps] using h
 | d :: ds, _, h => by
  simp only [Reps] at h ⊢
  obtain ⟨v, r, e, h1, h2⟩ := h
  exact ⟨v, r, e, Rep.mono s h1, Reps.mono s h2⟩
end
theorem Reps.length {H : Hp} : ∀ {ds : List Dv} {vs : List V}, Reps H ds vs -> vs.length = ds.length
 | [], _, h => by simp only [Reps] at h; subst h; rfl
 | d :: ds, _, h => by
  simp only [Reps] at h
  obtain ⟨v, r, e, h1, h2⟩ := h
  subst e
  rw [List.length_cons, List.length_cons, Reps.length h2]
theorem Reps.get {H : Hp} : ∀ {ds : List Dv} {vs : List V}, Reps H ds vs -> ∀ {i : Nat} {v : V}, vs[i]? = some v -> ∃ d, ds[i]? = some d /\ Rep H d v
 | [], _, h, i, v, e => by simp only [Reps] at h; subst h; simp at e
 | d :: ds, _, h, i, v, e => by
  simp only [Reps] at h
  obtain ⟨v', r, e', h1, h2⟩ := h
  subst e'
  cases i with
  | zero => exact ⟨d, rfl, by have : v' = v := by simpa using e
                              subst this; exact h1⟩
  | succ i => obtain ⟨d', e1, e2⟩ := Reps.get h2 (i := i) (v := v) (by simpa using e); exact ⟨d', by simpa using e1, e2⟩
section
variable {k : Nat} {ix : List Nat} {g : TG} {tt : TT} {te : TE} {σ : St} {H1 : Hp} {Q : List V -> Hp -> Prop}
theorem wb {f : Nat -> V} {n : Nat} (Pv : Nat -> List V -> Hp -> Prop) (h0 : Pv 0 [] H1) (hs : ∀ i ys H, i < n -> Pv i ys H -> eu k ix g tt te σ (f i) ys H (Pv (i + 1))) (hd : ∀ ys H, Pv n ys H -> Q ys H) : rLC (Itf f n) k ix g tt te σ H1 Q :=
 my (n := n) Pv h0 (fun i _ _ h _ => h) (fun _ _ _ => rfl) (fun i ys H x H' h p y => by
  obtain ⟨e, y⟩ := y
  subst e y
  exact hs i ys _ h p) hd
theorem oh {f F : Nat -> V} {n : Nat} (hs : ∀ i ys, i < n -> ys.length = i -> eu k ix g tt te σ (f i) ys H1 fun ys' H' => ys' = ys ++ [F i] /\ H' = H1) (hd : Q ((List.range n).map F) H1) : rLC (Itf f n) k ix g tt te σ H1 Q := by
 refine ⟨fun i m ys H => m = n - i /\ i <= n /\ H = H1 /\ ys = (List.range i).map F, ⟨n, by simp, Nat.zero_le _, rfl, rfl⟩, ?_⟩
 rintro i m ys H ⟨rfl, hi, rfl, rfl⟩
 by_cases hlt : i < n
 ·refine .inr ⟨hlt, fun ys' H' => ys' = (List.range i).map F ++ [F i] /\ H' = H, fun ys' H' ⟨e1, e2⟩ => ⟨n - (i + 1), by omega, rfl, hlt, e2, by rw [e1, List.range_succ, List.map_append]; rfl⟩, fun x H' y => ?_⟩
  obtain ⟨e, y⟩ := y
  subst e y
  exact hs i _ hlt (by simp)
 ·have e : i = n := by omega
  subst e
  exact .inl ⟨rfl, hd⟩
theorem cM {i : Nat} {x : V} {ys : List V} {H : Hp} {N : List V -> Hp -> Prop} (h : te ((dl k ix σ).set i (some x)) H fun y H4 => ys.length < sizeLine /\ N (ys ++ [y]) H4) : eu k ix (ev i) vR te σ x ys H N := by
 exact bR (B := N ys H) h
theorem eQ {i j : Nat} {K : PySem.W.Frag} {a : Addr} {x y : V} {ys : List V} {H : Hp} {N : List V -> Hp -> Prop} (ha : H a = some (.tup [x, y])) (h : te (((dl k ix σ).set i (some x)).set j (some y)) H fun y H4 => ys.length < sizeLine /\ N (ys ++ [y]) H4) :
  eu k ix (uX K 2 (gW (ev i) (gW (ev j) pZ))) vR te σ (.ref a) ys H N := by
 refine ⟨a, _, rfl, SqT.of ha, rfl, _, _, rfl, _, _, rfl, rfl, ?_⟩
 exact bR (B := N ys H) h
end
mutual
def Dv.small : Dv -> Bool
 | .str x => decide (x.cps.size <= 1000)
 | .tup xs => smalls xs && decide (xs.length <= 1000)
 | .lst xs => smalls xs && decide (xs.length <= 1000)
 | _ => true
def smalls : List Dv -> Bool
 | [] => true
 | d :: ds => d.small && smalls ds
end
theorem ac {H : Hp} {p : Addr} (h : H p = none) (o : HO) : ao H (upd H p o) := fun b u q => by rw [aq (ai q h)]; exact q
theorem rl {n : Nat} (h : n <= 1000) : n <= sizeLine := Nat.le_of_lt (qI h)
section
variable {X : Cx}
theorem fX (K : PySem.W.Frag) (h : X.K = K) : IxR X (wV K) := by subst h; exact ap
end
section
variable {X : Cx}
def vg (K : PySem.W.Frag) : R2 := fun x y H Q => ∃ a b xs ys, x = .ref a /\ y = .ref b /\ SqT K H a xs /\ SqT K H b ys /\ xs.length + ys.length <= sizeLine /\
 (xs = [] -> Q (.ref b) H) /\ (ys = [] -> Q (.ref a) H) /\ (∀ p, H p = none -> Q (.ref p) (upd H p (.tup (xs ++ ys))))
theorem ir : OpR X (binaryOp .Add) (vg X.K) := by
 intro pins s σ H x y v u Q I rx ry h
 obtain ⟨a, b, xs, ys, rfl, rfl, ha, hb, hz, q0, q1, q2⟩ := h
 by_cases hx : xs = []
 ·cases rx
  cases ry
  obtain ⟨its, r1, p1, _⟩ := I.tuple ha
  obtain ⟨its2, r2, p2, _⟩ := I.tuple hb
  subst hx
  cases r1
  obtain ⟨⟨cls, dd, data, sl⟩, ho, hc, n, hd⟩ := id p1
  obtain ⟨⟨cls2, dd2, data2, sl2⟩, ho2, hc2, n2, hd2⟩ := id p2
  simp only at hc hd hc2 hd2
  subst hc hd hc2 hd2
  exact concat_meets ⟨_, ho, rfl⟩ ⟨_, ho2, rfl⟩ noFill_tuple_add seq_tuple_add PySem.F.slot_tuple_add PySem.F.entry_tuple_add (PySem.F.args_tuple_add_2 _ _) (tuple_addW0 a b _ _ n n2 dd dd2 sl sl2 rfl) ⟨ho, ho2, ⟨.ref b, H, I, rfl, q0 rfl⟩⟩
 ·exact uR pins s σ H (.ref a) (.ref b) v u Q I rx ry ⟨a, b, xs, ys, rfl, rfl, ha, hb, hx, hz, q1, fun _ => q2⟩
end
def fk (t : TE) (σ : St) (H : Hp) (d : Dv) : Prop := ∀ H1, ao H H1 -> ∀ Q : VK, (∀ H' v, ao H1 H' -> Rep H' d v -> Q v H') -> t σ H1 Q
def jL (t : TA) (σ : St) (H : Hp) (ds : List Dv) : Prop := ∀ H1, ao H H1 -> ∀ Q : List V -> Hp -> Prop, (∀ H' vs, ao H1 H' -> Reps H' ds vs -> Q vs H') -> t σ H1 Q
section
variable {σ : St} {H : Hp} {d e : Dv} {ds es : List Dv} {ta tb : TE} {t : TA}
theorem bp : jL dz σ H [] := fun H1 s Q q => q H1 [] (ao.refl _) (by simp [Reps])
theorem aJ (h1 : fk ta σ H d) (h2 : jL t σ H ds) : jL (bj ta t) σ H (d :: ds) := fun H1 s Q q =>
 h1 H1 s _ fun H2 v s2 R => h2 H2 (s.trans s2) _ fun H3 vs s3 Rs => q H3 (v :: vs) (s2.trans s3) (by simp only [Reps]; exact ⟨v, vs, rfl, R.mono s3, Rs⟩)
theorem bD (h : jL t σ H ds) (hz : ds.length <= 1000) : fk (eP t) σ H (.tup ds) := fun H1 s Q q =>
 h H1 s _ fun H2 vs s2 Rs => ⟨by rw [Rs.length]; exact rl hz, fun p hp => q _ (.ref p) (s2.trans (ac hp _)) (by simp only [Rep]; exact ⟨p, vs, rfl, ab, Rs.mono (ac hp _)⟩)⟩
theorem tH (h : jL t σ H ds) (hz : ds.length <= 1000) : fk (wv t) σ H (.lst ds) := fun H1 s Q q =>
 h H1 s _ fun H2 vs s2 Rs => ⟨by rw [Rs.length]; exact rl hz, fun p hp => q _ (.ref p) (s2.trans (ac hp _)) (by simp only [Rep]; exact ⟨p, vs, rfl, ab, Rs.mono (ac hp _)⟩)⟩
theorem eE {i : Int} : fk (tC (.int i)) σ H (.int i) := fun H1 _ Q q => q H1 _ (ao.refl _) (by simp [Rep])
theorem eM {x : Str} : fk (tC (.str x)) σ H (.str x) := fun H1 _ Q q => q H1 _ (ao.refl _) (by simp [Rep])
theorem ji {i : Nat} {v : V} (hv : σ[i]? = some (some v)) (R : Rep H d v) : fk (dB i) σ H d := fun H1 s Q q => ⟨v, hv, q H1 v (ao.refl _) (R.mono s)⟩
theorem Reps.append {H : Hp} : ∀ {ds es : List Dv} {vs ws : List V}, Reps H ds vs -> Reps H es ws -> Reps H (ds ++ es) (vs ++ ws)
 | [], _, _, _, h, g => by simp only [Reps] at h; subst h; exact g
 | d :: ds, es, vs, ws, h, g => by
  simp only [Reps] at h
  obtain ⟨v, r, rfl, h1, h2⟩ := h
  simp only [List.cons_append, Reps]
  exact ⟨v, r ++ ws, rfl, h1, Reps.append h2 g⟩
end
section
variable {σ : St} {H : Hp} {d e : Dv} {ds es : List Dv} {ta tb : TE} {t : TA} {l : Addr}
variable {i : Nat} {u : TS} {D : fq}
end
section
variable {X : Cx}
theorem uS : OpR X (binaryOp .Add) (fun x y H Q => ∃ (l b : Addr) (xs zs : List V), x = .ref l /\ y = .ref b /\ SqL X.K H l xs /\ SqL X.K H b zs /\ xs.length + zs.length <= sizeLine /\ ∀ p, H p = none -> Q (.ref p) (upd H p (.lst (xs ++ zs)))) := by
 intro pins s σ H x y v u Q I rx ry h
 obtain ⟨l, b, xs, zs, rfl, rfl, hl, hb, hz, q⟩ := h
 cases rx
 cases ry
 obtain ⟨its, r1, ⟨⟨c1, d1, dt1, sl1⟩, n1, e1, hc1, hd1, hdt1⟩, _⟩ := I.list hl
 obtain ⟨its2, r2, ⟨⟨c2, d2, dt2, sl2⟩, n2, e2, hc2, hd2, hdt2⟩, _⟩ := I.list hb
 simp only at hc1 hd1 hdt1 hc2 hd2 hdt2
 subst hc1 hd1 hdt1 hc2 hd2 hdt2
 refine concat_meets ⟨_, e1, rfl⟩ ⟨_, e2, rfl⟩ noFill_list_add seq_list_add PySem.F.slot_list_add PySem.F.entry_list_add (PySem.F.args_list_add_2 _ _) (list_addW l b its.toArray its2.toArray n1 n2 none none sl1 sl2 (by rw [List.size_toArray, List.size_toArray, <- r1.length, <- r2.length]; exact hz)) ⟨e1, e2, ?_⟩
 have ea : its.toArray ++ its2.toArray = (its ++ its2).toArray := by simp
 rw [ea]
 refine ⟨.ref s.heap.objs.size, _, I.laid (t' := s.toks) (o := .lst (xs ++ zs)) (fun b ob q => Heap.get?_push_of_some _ q) (Nat.le_refl _) ?_, rfl, q _ (I.hok.fresh (Nat.le_refl _))⟩
 exact ⟨by rw [List.length_append]; exact hz, _, 0, r1.append r2, Heap.get?_push_size _ rfl⟩
end
theorem gC {prog : Program} {w : World} {A : Around} {E : Value -> Shared -> Prop} {s : Shared} {a : Addr} {o : Obj} {xs : Array Value} {k : Nat} {name : Str} {Q : Option Value -> Shared -> Prop}
  (hx : s.heap.get? a = some o) (hc : o.cls = .type "tuple") (hdat : o.data = .seq xs k) (hd : o.dict = none) (hmiss : typeLookup (.type "tuple") name = pure none) (hname : (["__module__", "__name__", "__qualname__", "__doc__", "__annotations__"] : List Str).contains name = false) (hA : A.handled = none)
  (h : ∀ h' tk e, Heap.NewExcOf s.heap h' e "AttributeError" -> Q none { s with heap := h', toks := tk }) (hsz : name.length + 100 <= sizeLine := by size_fits) :
  wpAny (model prog w) A (getAttr? (.ref a) name) Q E s := by
 obtain ⟨c, dct, dat, sl⟩ := o
 simp only at hc hdat hd
 subst hc hdat hd
 obtain ⟨hp, g, d, tk, os⟩ := s
 have hT : ∀ tk', (⟨hp, g, d, tk', os⟩ : Shared).TypeIs (.ref a) "tuple" := fun _ => ⟨_, hx, rfl⟩
 have f1 := sub_AttributeError
 have f3 := F.slot_tuple_getattribute.lookup
 have f4 := F.slot_tuple_getattribute.bind (.ref a)
 have f5 := am_tuple_getattr_none
 unfold getAttr? getAttrBy? getAttrBy
 repeat (any_goals (first | assumption | exact hT _ | ((with_reducible show wpAny _ _ (call (Value.builtin "tuple.__getattribute__") _ _) _ _ _); refine call_meets F.slot_tuple_getattribute (hT _) am_entry_tuple_getattribute (F.args_tuple_getattribute_2 _ _) (meets_getattribute_miss_tuple a xs k sl name _ hmiss hname hsz) ⟨hx, hA, fun h' tk' e hx' => ?_⟩) | wp_step))
 obtain ⟨t', u', he⟩ := hx'.there
 show wpAny _ _ (getattributeRaised _ _ _ _ _ _ _) _ _ _
 unfold getattributeRaised
 repeat (any_goals (first | assumption | wp_step))
 exact h _ _ _ hx'.of
theorem hX : typeLookup (.type "tuple") "keys" = pure none := by rw [typeLookup_type, builtinLookup_eq_fast]; kernel_rfl
theorem cq : plainId "dict.update.loop" = true := by decide +kernel
theorem eT : entryFor table "dict.update.loop" = some Builtin.«dict.update.loop» := entryFor_of_fast (by kernel_rfl)
section
variable {prog : Program} {w : World} {K : Type} [DecidableEq K] {knd : PySem.KeyKind prog w K} {A : Around} {R : Result -> Shared -> Prop} {I d : Addr} {fp wr : List Addr} {n : Nat} {P : Nat -> Value -> Prop} {St : Nat -> Heap -> Prop}
def mI (ks : Nat -> K) (vs : Nat -> Value) : Nat -> Nat -> List (K × Value) -> List (K × Value)
 | _, 0, m => m
 | i, k + 1, m => mI ks vs (i + 1) k (stored m (ks i) (vs i))
theorem on (m : List (K × Value)) (k : K) (v : Value) : (stored m k v).length <= m.length + 1 := by
 unfold stored
 split
 ·rw [List.length_map]; omega
 ·simp
theorem gx (W : Walks prog w A.in1 I fp wr n P St) (bs : Nat -> Addr) (ks : Nat -> K) (us vs : Nat -> Value) (hP : ∀ i v, P i v -> v = .ref (bs i)) (hk : ∀ i, i < n -> knd.is (ks i) (us i) = true) (hb : ∀ i, i < n -> bs i ∉ wr /\ bs i ≠ d) (hd : d ∉ fp) (hz : n <= sizeLine) :
  ∀ (k i : Nat) (s : Shared) (kvs : List (K × Value)) (t : Tok), n - i = k -> i <= n -> St i s.heap -> kvs.length <= i -> s.heap.DictOf knd d kvs -> (∀ j, j < n -> s.heap.IsTuple (bs j) #[us j, vs j]) ->
  (∀ h' tk, h'.DictOf knd d (mI ks vs i k kvs) -> (∀ b o, b ∉ wr -> b ≠ d -> s.heap.get? b = some o -> h'.get? b = some o) -> R (.ok (.ret .none)) { s with heap := h', toks := tk }) ->
  codeAny (model prog w) A (.builtin "dict.update.loop" ⟨[.ref d, .ref I, .int i t, .none], []⟩) R s := by
 have hdw : d ∉ wr := fun h => hd (W.sub _ h)
 intro k
 induction k with
 | zero =>
  intro i s kvs t hk' hi hst hl hm hT hR
  have hin : i = n := by omega
  subst hin
  refine codeAny_builtin eT ?_
  rw [Around.under_plainId cq _]
  show wpAny _ A.in1 (pyNext (.ref I) >>= _) _ _ s
  refine wpAny_bind (W.done s _ _ hst fun h' tk hk'' => ?_)
  show wpAny _ A.in1 (Builtin.Dict.addKeywords d [] >>= _) _ _ _
  refine wpAny_bind (wpAny_pure (wpAny_pure ?_))
  refine hR h' tk ?_ fun b o hbw _ e => hk'' b o hbw e
  obtain ⟨o, es, ep, ho, r⟩ := hm
  exact ⟨o, es, ep, hk'' d o hdw ho, r⟩
 | succ k ih =>
  intro i s kvs t hk' hi hst hl hm hT hR
  have hlt : i < n := by omega
  refine codeAny_builtin eT ?_
  rw [Around.under_plainId cq _]
  show wpAny _ A.in1 (pyNext (.ref I) >>= _) _ _ s
  refine wpAny_bind (W.item i s _ _ hlt hst fun v h' tk hPv hst' hk'' => ?_)
  obtain rfl := hP i v hPv
  have hm' : h'.DictOf knd d kvs := by
   obtain ⟨o, es, ep, ho, r⟩ := hm
   exact ⟨o, es, ep, hk'' d o hdw ho, r⟩
  have hT' : ∀ j, j < n -> h'.IsTuple (bs j) #[us j, vs j] := fun j hj => by
   obtain ⟨o, ho, r⟩ := hT j hj
   exact ⟨o, hk'' _ _ (hb j hj).1 ho, r⟩
  obtain ⟨o, ho, hc, c, hdat⟩ := hT' i hlt
  refine wpAny_bind (wpAny_holding (wpAny_bind (wpAny_tryCatch ?_)))
  unfold Builtin.Dict.pairItems
  refine wpAny_bind (wpAny_typeOf (T := "tuple") ⟨_, ho, hc⟩ ?_)
  rw [if_pos (by decide)]
  refine wpAny_bind (wpAny_seqItems ho hdat (wpAny_pure ?_))
  refine wpAny_holding (wpAny_dictSet_pairs (hsz := by omega) (hk i hlt) hm' fun h2 hd2 hs2 => ?_)
  refine wpAny_pure ⟨plainId_quiet cq _, ih (i + 1) _ _ _ (by omega) hlt (W.frame _ _ _ hst' fun b hb' o' e => ?_) ?_ hd2 (fun j hj => ?_) fun h3 tk3 hd3 hk3 => ?_⟩
  ·exact hs2.extBut b o' (fun h => hd (by rw [<- h]; exact hb')) e
  ·have := on kvs (ks i) (vs i); omega
  ·obtain ⟨o', ho', r⟩ := hT' j hj
   exact ⟨o', hs2.extBut _ _ (hb j hj).2 ho', r⟩
  ·exact hR h3 tk3 hd3 fun b o' hbw hbd e => hk3 b o' hbw hbd (hs2.extBut b o' hbd (hk'' b o' hbw e))
end
section
variable {prog : Program} {w : World} {K : Type} [DecidableEq K] {knd : PySem.KeyKind prog w K} {A : Around} {E : Value -> Shared -> Prop} {s : Shared}
theorem hJ {a : Addr} {its : Array Value} {Q : Value -> Shared -> Prop} (bs : Nat -> Addr) (ks : Nat -> K) (us vs : Nat -> Value) (hA : A.handled = none) (ht : s.heap.IsTuple a its) (hn : NoD s.heap a)
  (hP : ∀ (i : Nat) (v : Value), its[i]? = some v -> v = .ref (bs i)) (hk : ∀ i, i < its.size -> knd.is (ks i) (us i) = true) (hT : ∀ j, j < its.size -> s.heap.IsTuple (bs j) #[us j, vs j]) (hz : its.size <= sizeLine)
  (h : ∀ h' tk, h'.DictOf knd s.heap.objs.size (mI ks vs 0 its.size []) -> (∀ b o, s.heap.get? b = some o -> h'.get? b = some o) -> Q (.ref s.heap.objs.size) { s with heap := h', toks := tk }) :
  wpAny (model prog w) A (call (.type "dict") [.ref a]) Q E s := by
 refine callType_codes (Q₁ := fun obj s₁ => obj = .ref s.heap.objs.size /\ s₁ = { s with heap := s.heap.push { cls := .type "dict", data := .dict #[] } }) F.kt_called_dict (F.kt_typeCall_dict_1 _) F.entry_dict_init (kt_code_dict_new _ ⟨rfl, rfl⟩) ?_
 rintro obj s₁ ⟨rfl, rfl⟩
 have hnew : (s.heap.push { cls := .type "dict", data := .dict #[] }).DictOf knd s.heap.objs.size [] := Heap.DictOf.new s.heap
 have up : ∀ b o, s.heap.get? b = some o -> (s.heap.push { cls := .type "dict", data := .dict #[] }).get? b = some o := fun b o e => Heap.get?_push_of_some _ e
 have low : ∀ b o, s.heap.get? b = some o -> b ≠ s.heap.objs.size := fun b o e => Nat.ne_of_lt (Heap.lt_size e)
 refine ⟨hnew.typeIs, F.args_dict_init_2 _ _, ?_⟩
 unfold Builtin.«dict.__init__»
 refine wpAny_bind ?_
 unfold Builtin.Dict.selfAndRest
 refine wpAny_bind (wpAny_notOrdered_dict hnew.typeIs ?_)
 show wpAny _ _ (pure (s.heap.objs.size, [Value.ref a])) _ _ _
 refine wpAny_pure ?_
 show wpAny _ _ (Builtin.Dict.updateFrom "dict.__init__" s.heap.objs.size (.ref a) [] .none) _ _ _
 unfold Builtin.Dict.updateFrom
 obtain ⟨o, ho, hc, n, hdat⟩ := ht
 obtain ⟨o', ho', hd⟩ := hn
 obtain rfl : o = o' := Option.some.inj (ho.symm.trans ho')
 refine wpAny_bind (wpAny_typeOf (T := "tuple") ⟨_, up _ _ ho, hc⟩ ?_)
 rw [if_pos (by decide)]
 refine wpAny_bind (gC (A := A.in1.in1) (up _ _ ho) hc hdat hd hX (by decide +kernel) hA fun h1 tk1 e1 X1 => ?_)
 rw [if_pos (show (none : Option Value).isNone = true from rfl)]
 refine wpAny_bind (wpAny_rule ?_)
 have t1 : h1.IsTuple a its := ⟨o, X1.keeps _ _ (up _ _ ho), hc, n, hdat⟩
 refine wpAny_bind (wpAny_pyIter_tuple t1 ?_)
 have hl1 : s.heap.objs.size < h1.objs.size := by
  obtain ⟨q, _, _, hq, _⟩ := hnew
  exact Heap.lt_size (X1.keeps _ _ hq)
 have k1 : ∀ b q, s.heap.get? b = some q -> (h1.push { cls := .type "tuple_iterator", data := .fields #[.ref a, .int 0 0] }).get? b = some q := fun b q e => Heap.get?_push_of_some _ (X1.keeps _ _ (up _ _ e))
 have lt1 : ∀ b q, s.heap.get? b = some q -> b ≠ h1.objs.size := fun b q e => Nat.ne_of_lt (Nat.lt_trans (Heap.lt_size e) hl1)
 refine wpAny_pure ⟨plainId_quiet cq _, gx (knd := knd) (n := its.size) (Walks.tuple (A := A.in1.in1) hA h1.objs.size a (lt1 _ _ ho) its) bs ks us vs hP hk (fun i hi => ?_) ?_ hz its.size 0 _ [] 0 (by omega) (Nat.zero_le _) ?_ (Nat.le_refl 0) ?_ (fun j hj => ?_) fun h' tk hd' hk' => ?_⟩
 ·obtain ⟨q, hq, _⟩ := hT i hi
  exact ⟨by simpa using lt1 _ _ hq, low _ _ hq⟩
 ·have := low _ _ ho
  simp only [List.mem_cons, List.mem_nil_iff, or_false, not_or]
  exact ⟨Nat.ne_of_lt hl1, fun e => this e.symm⟩
 ·exact ⟨⟨_, Heap.get?_push_size _ rfl, rfl, rfl⟩, o, k1 _ _ ho, hc, n, hdat⟩
 ·obtain ⟨q, es, ep, hq, r⟩ := hnew
  exact ⟨q, es, ep, Heap.get?_push_of_some _ (X1.keeps _ _ hq), r⟩
 ·obtain ⟨q, hq, r⟩ := hT j hj
  exact ⟨q, k1 _ _ hq, r⟩
 ·exact ⟨rfl, h h' tk hd' fun b q e => hk' b q (by simpa using lt1 _ _ e) (low _ _ e) (k1 _ _ e)⟩
end
theorem sT {m : List (Key × V)} {k : Key} {v : V} (h : k ∉ m.map (·.1)) : cC m k v = m ++ [(k, v)] := by
 unfold cC
 rw [if_neg]
 intro e
 rw [List.any_eq_true] at e
 obtain ⟨p, hp, e⟩ := e
 exact h (List.mem_map.mpr ⟨p, hp, of_decide_eq_true e⟩)
theorem rS {ks : Nat -> Key} {vs : Nat -> Value} : ∀ (l : List (Key × V)) (i : Nat) (m : List (Key × V)) (m' : List (Key × Value)), KV m m' -> (∀ (j : Nat) (p : Key × V), l[j]? = some p -> p.1 = ks (i + j) /\ aX p.2 (vs (i + j))) ->
  ((m ++ l).map (·.1)).Nodup -> KV (m ++ l) (mI ks vs i l.length m')
 | [], i, m, m', r, _, _ => by rw [List.append_nil]; exact r
 | p :: l, i, m, m', r, h, nd => by
  obtain ⟨e, rv⟩ := h 0 p rfl
  have hk : ks i ∉ m.map (·.1) := by
   rw [List.map_append, List.nodup_append] at nd
   intro hm
   exact nd.2.2 _ hm _ (List.mem_map.mpr ⟨p, List.mem_cons_self, rfl⟩) e.symm
  have r2 : KV (m ++ [p]) (stored m' (ks i) (vs i)) := by
   have z := KV.put r (ks i) rv
   rw [sT hk] at z
   rwa [show (ks i, p.2) = p from by rw [show ks i = p.1 from e.symm]] at z
  have := rS l (i + 1) (m ++ [p]) _ r2 (fun j q hq => by have := h (j + 1) q (by simpa using hq); rwa [show i + (j + 1) = i + 1 + j by omega] at this) (by simpa using nd)
  rw [List.append_assoc] at this
  exact this
section
variable {X : Cx}
theorem cT (hc : X.calm = true) : de X (.type "dict") (fun xs H Q => ∃ (a : Addr) (ps : List (Addr × Key × V)), xs = [.ref a] /\ H a = some (.tup (ps.map fun p => V.ref p.1)) /\ (∀ p ∈ ps, H p.1 = some (.tup [kV p.2.1, p.2.2])) /\
  (ps.map (·.2.1)).Nodup /\ ∀ d, H d = none -> Q (.ref d) (upd H d (.dK (ps.map (·.2))))) := by
 intro pins s σ H xs us Q I r h
 obtain ⟨a, ps, rfl, ha, hp, nd, q⟩ := h
 obtain ⟨u, rfl, ru⟩ := fz r
 cases ru
 obtain ⟨z, its, rv, tp, no⟩ := (show bg X.prog X.w H s.heap a (.tup (ps.map fun p => V.ref p.1)) from I.hok a _ ha)
 have hlen : ps.length = its.length := by have := rv.length; rwa [List.length_map] at this
 have two : ∀ i : Nat, ∃ y : Value × Value, ∀ p, ps[i]? = some p -> aX (kV p.2.1) y.1 /\ aX p.2.2 y.2 /\ s.heap.IsTuple p.1 #[y.1, y.2] := fun i => by
  cases e : ps[i]? with
  | none => exact ⟨(.none, .none), fun p hp => nomatch hp⟩
  | some p =>
   obtain ⟨_, us, ru, t2, _⟩ := (show bg X.prog X.w H s.heap p.1 (.tup [kV p.2.1, p.2.2]) from I.hok _ _ (hp p (List.mem_of_getElem? e)))
   obtain ⟨u1, u2, rfl, r1, r2⟩ := pC ru
   exact ⟨(u1, u2), fun p' e' => by cases e'; exact ⟨r1, r2, t2⟩⟩
 obtain ⟨f, hf⟩ := Classical.axiomOfChoice two
 have at' : ∀ i, i < its.toArray.size -> ∃ p, ps[i]? = some p := fun i hi => ⟨ps[i]'(by rw [hlen]; simpa using hi), List.getElem?_eq_getElem _⟩
 refine hJ (knd := be X.prog X.w) (its := its.toArray) (fun i => ((ps[i]?).map (·.1)).getD a) (fun i => ((ps[i]?).map (·.2.1)).getD (.inl 0)) (fun i => (f i).1) (fun i => (f i).2) (I.ok.hd hc) tp no
  (fun i v hv => ?_) (fun i hi => ?_) (fun j hj => ?_) (by rw [List.size_toArray, <- hlen]; rwa [List.length_map] at z) fun h' tk dd kp => ?_
 ·have hv' : its[i]? = some v := by simpa using hv
  have hi : i < ps.length := by rw [hlen]; exact (List.getElem?_eq_some_iff.mp hv').1
  obtain ⟨u', hu', r'⟩ := aU.get (i := i) (x := V.ref ps[i].1) rv (by rw [List.getElem?_map, List.getElem?_eq_getElem hi]; rfl)
  obtain rfl : u' = v := Option.some.inj (hu'.symm.trans hv')
  cases r'
  show Value.ref _ = Value.ref _
  rw [List.getElem?_eq_getElem hi]; rfl
 ·obtain ⟨p, e⟩ := at' i hi
  rw [e]
  exact jw (hf i p e).1
 ·obtain ⟨p, e⟩ := at' j hj
  rw [e]
  exact (hf j p e).2.2
 ·have rel : KV (ps.map (·.2)) (mI (fun i => ((ps[i]?).map (·.2.1)).getD (.inl 0)) (fun i => (f i).2) 0 its.toArray.size []) := by
   have := rS (ks := fun i => ((ps[i]?).map (·.2.1)).getD (.inl 0)) (vs := fun i => (f i).2) (ps.map (·.2)) 0 [] [] .nil (fun j p hj => ?_) (by simpa [Function.comp_def] using nd)
   ·rw [List.nil_append, List.length_map, hlen] at this
    rwa [List.size_toArray]
   ·rw [List.getElem?_map] at hj
    cases e : ps[j]? with
    | none => rw [e] at hj; cases hj
    | some p' =>
     rw [e] at hj
     obtain rfl : p'.2 = p := Option.some.inj hj
     refine ⟨?_, ?_⟩
     ·show _ = ((ps[0 + j]?).map (·.2.1)).getD (.inl 0)
      rw [Nat.zero_add, e]; rfl
     ·rw [Nat.zero_add]; exact (hf j p' e).2.1
  refine ⟨.ref s.heap.objs.size, _, I.laid (a := s.heap.objs.size) (o := .dK (ps.map (·.2))) (t' := tk) kp (Nat.le_refl _) (tG (by rw [List.length_map] at z ⊢; exact z) (beq_eq_false_iff_ne.mpr (Ne.symm (Nat.ne_of_lt I.big))) rel dd), rfl, q _ I.fresh⟩
end
section
variable {X : Cx}
end
open PySem PySem.Spec PyProof.Rows PySem.W
section
variable {X : Cx} {pins : List (Addr × Obj)} {σ : St} {H : Hp} {s : Shared}
theorem Inv.setList {D : Addr} {ys0 ys : List V} {its : List Value} {c : Nat} {h' : Heap} {m : Str -> Option Value} (I : Inv X pins σ H s) (hm : s.heap.Ns X.env.locals m) (hD : H D = some (.lst ys0)) (rv : aU ys its) (hz : ys.length <= sizeLine)
  (F : h'.Ns X.env.locals m) (k : ∀ b o, b ≠ X.env.locals -> b ≠ D -> s.heap.get? b = some o -> h'.get? b = some o) (e : h'.get? D = some { cls := .type "list", data := .seq its.toArray c }) : Inv X pins σ (upd H D (.lst ys)) { s with heap := h' } := by
 have nl : ∀ b v, H b = some v -> b ≠ X.env.locals := fun b v q z => by rw [z, I.free] at q; cases q
 have nD : ∀ b, H b = none -> b ≠ D := fun b q z => by rw [z, hD] at q; cases q
 have nT : ∀ b v, H b = some v -> v ≠ .lst ys0 -> b ≠ D := fun b v q n z => by rw [z, hD] at q; cases q; exact n rfl
 refine I.step (g' := s.gens) (d' := s.drawn) (t' := s.toks) (ch := []) (fun b hb => by cases hb) (fun b o hL _ _ q n => k b o hL (nD b n) q) (fun b o hL _ _ q n => ⟨o.slots, k b o hL (nD b n) q⟩) (fun b o _ q n => by rw [aq (nD b n)]; exact n) (fun b o _ q => ?_)
  (fun b xs q => by rw [aq (nT b _ q nofun)]; exact q) (fun b o v q => by rw [aq (nT b _ q nofun)]; exact q) (fun b ps q => ⟨#[], by rw [aq (nT b _ q nofun), q]; simp⟩) (fun m' hm' => by rw [sO hm' hm]; exact F) (fun b v q => ?_) I.bare
 ·by_cases hb : b = X.env.locals
  ·subst hb
   obtain ⟨o', _, _, q', _⟩ := F
   exact ⟨o', q'⟩
  ·by_cases hd : b = D
   ·subst hd; exact ⟨_, e⟩
   ·exact ⟨o, k b o hb hd q⟩
 ·by_cases hb : b = D
  ·subst hb
   rw [ab] at q
   cases q
   exact ⟨hz, its, c, rv, e⟩
  ·rw [aq hb] at q
   refine (I.hok b v q).stay (fun c w' hc q' => ?_) (fun c q' => by rw [aq (nT c _ q' nofun)]; exact q') fun c xs q' => by rw [aq (nT c _ q' nofun)]; exact q'
   rcases hc with z | z
   ·subst z; exact k c w' (nl c v q) hb q'
   ·exact k c w' (nl c _ z) (nT c _ z nofun) q'
theorem tV {A : Around} {E : Value -> Shared -> Prop} {l : Addr} {ps : List TK} {Q : Value -> Shared -> Prop} (I : Inv X pins σ H s) (hq : H l = some (.lst (ps.map fun p => V.ref p.1))) (ht : ∀ p ∈ ps, H p.1 = some (.tup (.str p.2.1 :: p.2.2)))
  (nd : (ps.map (·.2.1)).Nodup) (h64 : ps.length < 64) (q : ∀ (qs : List TK) (h' : Heap), qs.Perm ps -> qs.Pairwise qt -> Inv X pins σ (upd H l (.lst (qs.map fun p => V.ref p.1))) { s with heap := h' } -> Q .none { s with heap := h' }) :
  wpAny (model X.prog X.w) A (call (.builtin "list.sort") [.ref l]) Q E s := by
 obtain ⟨hz, its, n, rv, at0⟩ := (show bg X.prog X.w H s.heap l (.lst (ps.map fun p => V.ref p.1)) from I.hok l _ hq)
 have ei := pQ ps its rv
 subst ei
 obtain ⟨m, hm, _⟩ := I.loc
 have nL : l ≠ X.env.locals := fun z => by rw [z, I.free] at hq; cases hq
 have lne : ∀ p ∈ ps, p.1 ≠ l /\ p.1 ≠ X.env.locals := fun p hp => by
  refine ⟨fun z => ?_, fun z => ?_⟩
  ·have t := ht p hp
   rw [z, hq] at t
   cases t
  ·have t := ht p hp
   rw [z, I.free] at t
   cases t
 by_cases few : ps.length < 2
 ·refine wpAny_call_entry slot_list_sort ⟨_, at0, rfl⟩ entry_list_sort (dy at0 (by simpa using few) fun hp ep k2 e2 => ⟨_, rfl, ?_⟩) (args_list_sort _)
  refine q ps hp (List.Perm.refl _) ?_ (I.setList hm hq (dM ps) hz (hm.at' fun o e => k2 _ o (Ne.symm nL) e) (fun b o _ hb z => k2 b o hb z) e2)
  match ps, few with
  | [], _ => exact .nil
  | [p], _ => exact List.pairwise_singleton _ _
 ·have hlen : (ps.map fun p => Value.ref p.1).length = ps.length := List.length_map _
  have F0 : Fr (Att.noObjs s.heap) X.env.locals s.heap m := Att.fr_all hm
  generalize hN : (cJ (Att.noObjs s.heap) s.heap X.env.locals).filter (fun p => decide (p.1 ≠ l)) = nw
  have N0 : News (Att.noObjs s.heap) X.env.locals s.heap nw := fun p hp => by rw [<- hN] at hp; exact iG p (List.mem_filter.mp hp).1
  have nl0 : ∀ p ∈ nw, p.1 ≠ l := fun p hp => by rw [<- hN] at hp; exact of_decide_eq_true (List.mem_filter.mp hp).2
  refine wpAny_call_entry slot_list_sort ⟨_, at0, rfl⟩ entry_list_sort (kat_list_sort F0 N0 at0 nL (Att.noObjs_get _ _) nl0 (by rw [hlen]; omega) (by rw [hlen]; exact h64) fun e1 h' F' N' => ?_) (args_list_sort _)
  have keep : ∀ (g : Heap) (x : Obj), News (Att.noObjs s.heap) X.env.locals g ((l, x) :: nw) -> ∀ b o, b ≠ X.env.locals -> b ≠ l -> s.heap.get? b = some o -> g.get? b = some o := fun g x N b o hb hl e =>
   (N (b, o) (List.mem_cons_of_mem _ (by rw [<- hN]; exact List.mem_filter.mpr ⟨dj hb (Att.noObjs_get _ _) e, decide_eq_true hl⟩))).1
  have kp := keep h' _ N'
  have atv : ∀ i, i < ps.length -> (ps.map fun p => Value.ref p.1).getD i .none = Value.ref (ps.getD i (0, default, [])).1 := fun i hi => by
   simp [List.getD, hi]
  have item : ∀ i, i < ps.length -> ∃ (o : Obj) (us : List Value) (n : Nat) (t : Tok), h'.get? (ps.getD i (0, default, [])).1 = some o /\ o.cls = .type "tuple" /\ o.data = .seq (Value.str (ps.getD i (0, default, [])).2.1 t :: us).toArray n := fun i hi => by
   have hm' : ps.getD i (0, default, []) ∈ ps := by
    have e : ps.getD i (0, default, []) = ps[i] := by simp [List.getD, hi]
    rw [e]; exact List.getElem_mem hi
   obtain ⟨o, us, n, t, e, c, d⟩ := kB I (ht _ hm')
   exact ⟨o, us, n, t, kp _ o (lne _ hm').2 (lne _ hm').1 e, c, d⟩
  have firsts : ∀ (qs : List TK), (∀ p ∈ qs, p ∈ ps) -> ∃ fs : List Value, KatTups h' (qs.map fun p => Value.ref p.1) fs /\ fs.length = qs.length /\ ∀ v ∈ fs, ∃ x t, v = Value.str x t := by
   intro qs
   induction qs with
   | nil => intro _; exact ⟨[], KatTups.nil, rfl, by simp⟩
   | cons p qs ih =>
    intro hs
    obtain ⟨fs, t1, t2, t3⟩ := ih fun x hx => hs x (List.mem_cons_of_mem _ hx)
    have hp := hs p List.mem_cons_self
    obtain ⟨o, us, n, t, e, c, d⟩ := kB I (ht _ hp)
    refine ⟨Value.str p.2.1 t :: fs, KatTups.cons (kp _ o (lne _ hp).2 (lne _ hp).1 e) c d (by simp) t1, by simp [t2], fun v hv => ?_⟩
    rcases List.mem_cons.mp hv with rfl | hv
    ·exact ⟨_, _, rfl⟩
    ·exact t3 v hv
  obtain ⟨fs, t1, t2, t3⟩ := firsts ps fun p hp => hp
  refine kat_kind (T := .type "str") (s := { s with heap := h' }) t1 (by rw [t2]; omega) (fun v hv => ?_) (by decide) ?_
  ·obtain ⟨x, t, rfl⟩ := t3 v hv
   exact Looks.of_pure rfl
  rw [hlen]
  have O : Ord (kas_ask X.prog X.w A.in1 (tuples' (Value.type "str" != Value.type "tuple")) (ps.map fun p => Value.ref p.1)) (fun i j => decide ((ps.getD i (0, default, [])).2.1.cps.toList < (ps.getD j (0, default, [])).2.1.cps.toList)) ps.length { s with heap := h' } := by
   have unlike : ∀ i j, i < ps.length -> j < ps.length -> i ≠ j -> (ps.getD i (0, default, [])).2.1 ≠ (ps.getD j (0, default, [])).2.1 := fun i j hi hj hij e => by
    have ei : ps.getD i (0, default, []) = ps[i] := by simp [List.getD, hi]
    have ej : ps.getD j (0, default, []) = ps[j] := by simp [List.getD, hj]
    rw [ei, ej] at e
    exact hij ((List.getElem_inj (h₀ := by simpa using hi) (h₁ := by simpa using hj) nd).mp (by simpa using e))
   refine ⟨fun i j C hi hj hij hC => ?_, fun i j k h1 h2 => ?_, fun i j hi hj hij h1 => ?_, fun i j h1 => ?_⟩
   ·show wpAny _ _ (keyLt' _ _ _) C _ _
    rw [atv i hi, atv j hj]
    obtain ⟨o, us, n, t, e, c, d⟩ := item i hi
    obtain ⟨o2, us2, n2, t2', e2, c2, d2⟩ := item j hj
    refine kat_lt (s := { s with heap := h' }) e d e2 d2 ?_
    show KatLex _ _ _ _ _ _ ((Value.str _ t, Value.str _ t2') :: _) 0 _
    refine kat_cons (wpAny_eqBool_str ?_)
    rw [decide_eq_false (unlike i j hi hj hij)]
    exact kat_no (oneLt_str hC)
   ·exact decide_eq_true (List.lt_trans (of_decide_eq_true h1) (of_decide_eq_true h2))
   ·exact decide_eq_true (kG (of_decide_eq_false h1) fun e => unlike i j hi hj hij (kN e))
   ·exact decide_eq_false (List.lt_asymm (of_decide_eq_true h1))
  refine kI O (by omega) fun p re up => ?_
  have outs : (p.toList.map fun i => (ps.map fun p => Value.ref p.1).getD i .none) = (p.toList.map fun i => ps.getD i (0, default, [])).map fun p => Value.ref p.1 := by
   rw [List.map_map]
   refine List.map_congr_left fun i hi => ?_
   have hl2 : p.toList.Perm (List.range ps.length) := by simpa using Array.perm_iff_toList_perm.mp re.perm
   exact atv i (List.mem_range.mp ((List.Perm.mem_iff hl2).mp hi))
  rw [outs]
  refine KasFin.intro (news := (l, seqObj "list" #[] e1) :: nw) (g := fun o' => (l, o') :: nw) F' N' (.head nl0) fun h2 c F2 N2 => ?_
  have pq := gI (d := (0, default, [])) rfl re
  have I2 := I.setList (D := l) (ys := (p.toList.map fun i => ps.getD i (0, default, [])).map fun p => V.ref p.1) hm hq (dM _) (by rw [List.length_map, pq.length_eq]; simpa using hz) F2.ns (keep h2 _ N2) (N2 (l, _) List.mem_cons_self).1
  exact ⟨_, rfl, q _ h2 pq (du (R := qt) (fun i j _ _ h => (of_decide_eq_true h : (ps.getD i (0, default, [])).2.1.cps.toList < (ps.getD j (0, default, [])).2.1.cps.toList)) re up) I2⟩
def mo (v d : Addr) : HO := .ext fun h => h.IsItemsView v d
theorem ny : MtR X "dict.items" (fun x xs H Q => ∃ d kvs, x = .ref d /\ xs = [] /\ H d = some (.dK kvs) /\ ∀ v, H v = none -> Q (.ref v) (upd H v (mo v d))) := by
 intro pins s σ H x xs u us Q I rx rv h
 obtain ⟨d, kvs, rfl, rfl, hd, q⟩ := h
 cases rx
 cases rv
 obtain ⟨z, hdm, vs, rel, dd⟩ := tK I.hok hd
 refine call_meetsIn PySem.F.slot_dict_items dd.typeIs PySem.F.entry_dict_items (PySem.F.args_dict_items_1 _) (meets_dict_items (be X.prog X.w) d hdm) ⟨⟨vs, dd⟩, ?_⟩
 refine ⟨.ref s.heap.objs.size, _, I.laid (t' := s.toks) (a := s.heap.objs.size) (o := mo s.heap.objs.size d) (fun b u q => Heap.get?_push_of_some _ q) (Nat.le_refl _) ?_, rfl, q _ I.fresh⟩
 exact ⟨⟨_, Heap.get?_push_size _ rfl, rfl, rfl⟩, ⟨_, Heap.get?_push_size _ rfl⟩, fun h1 h2 ⟨o, e, r⟩ k => ⟨o, k o e, r⟩⟩
def lays (H : Hp) (rs : List TK) : Hp := fun b => match rs.find? (fun r => decide (r.1 = b)) with | some r => some (.tup (.str r.2.1 :: r.2.2)) | none => H b
theorem iS {rs : List TK} {b : Addr} (h : ∀ r ∈ rs, r.1 ≠ b) : lays H rs b = H b := by
 unfold lays
 rw [List.find?_eq_none.mpr (fun r hr e => h r hr (of_decide_eq_true e))]
theorem pT {rs : List TK} (nd : (rs.map (·.1)).Nodup) {r : TK} (hr : r ∈ rs) : lays H rs r.1 = some (.tup (.str r.2.1 :: r.2.2)) := by
 unfold lays
 cases e : rs.find? (fun x => decide (x.1 = r.1)) with
 | none => exact absurd (decide_eq_true rfl) (List.find?_eq_none.mp e r hr)
 | some x =>
  have hx := List.mem_of_find?_eq_some e
  have e1 : x.1 = r.1 := of_decide_eq_true (List.find?_some (p := fun x : TK => decide (x.1 = r.1)) e)
  obtain ⟨i, hi, rfl⟩ := List.getElem_of_mem hx
  obtain ⟨j, hj, rfl⟩ := List.getElem_of_mem hr
  have : i = j := (List.getElem_inj (h₀ := by simpa using hi) (h₁ := by simpa using hj) nd).mp (by simpa using e1)
  subst this
  rfl
theorem Inv.lays {h' : Heap} {tk : Nat} {rs : List TK} (I : Inv X pins σ H s) (k : ∀ b u, s.heap.get? b = some u -> h'.get? b = some u) (nd : (rs.map (·.1)).Nodup) (hp : ∀ r ∈ rs, s.heap.objs.size <= r.1)
  (new : ∀ r ∈ rs, bg X.prog X.w (L2.lays H rs) h' r.1 (.tup (.str r.2.1 :: r.2.2))) : Inv X pins σ (L2.lays H rs) { s with heap := h', toks := tk } := by
 have out : ∀ b, b < s.heap.objs.size -> L2.lays H rs b = H b := fun b hb => iS fun r hr e => absurd hb (Nat.not_lt.mpr (e ▸ hp r hr))
 refine I.un (t' := tk) ⟨fun b u q _ _ _ => k b u q, fun b u q _ _ _ => ⟨u.slots, k b u q⟩, fun b u q n _ => by rw [out b (Heap.lt_size q)]; exact n, fun b u q _ => ⟨u, k b u q⟩, fun b xs q => by rw [out b (I.hok.lt q)]; exact q, fun b u xs q => by rw [out b (I.hok.lt q)]; exact q,
  fun b ps q => ⟨#[], by rw [out b (I.hok.lt q), q]; simp⟩⟩ fun b u e => ?_
 by_cases hb : ∃ r ∈ rs, r.1 = b
 ·obtain ⟨r, hr, rfl⟩ := hb
  rw [pT nd hr] at e
  cases e
  exact new r hr
 ·rw [iS fun r hr z => hb ⟨r, hr, z⟩] at e
  exact (I.hok b u e).stay (fun c v _ q => k c v q) (fun c q => by rw [out c (I.hok.lt q)]; exact q) fun c xs q => by rw [out c (I.hok.lt q)]; exact q
theorem fV (hc : X.calm = true) : de X (.builtin "sorted") (fun xs H Q => ∃ (v d : Addr) (m : List (Str × V)), xs = [.ref v] /\ H v = some (mo v d) /\ H d = some (.dK (m.map fun p => ((Sum.inr p.1 : Key), p.2))) /\ m.length < 64 /\
  ∀ (H' : Hp) (l : Addr) (qs : List TK), ao H H' -> H l = none -> (∀ r ∈ qs, H' r.1 = some (.tup (.str r.2.1 :: r.2.2)) /\ H r.1 = none) -> H' l = some (.lst (qs.map fun r => V.ref r.1)) -> (qs.map (·.2)).Perm (m.map fun p => (p.1, [p.2])) -> qs.Pairwise qt -> Q (.ref l) H') := by
 intro pins s σ H xs us Q I r h
 obtain ⟨v, d, m, rfl, hv, hd, h64, q⟩ := h
 obtain ⟨u, rfl, ru⟩ := fz r
 cases ru
 obtain ⟨vw, _, _⟩ := (show bg X.prog X.w H s.heap v (mo v d) from I.hok v _ hv)
 obtain ⟨z, hdm, vs, rel, dd⟩ := tK I.hok hd
 have hvl : vs.length = m.length := by have := rel.length; rw [List.length_map] at this; exact this.symm
 obtain ⟨ep, da⟩ := dd.dictAt
 have ndk : (vs.map (·.1)).Nodup := by obtain ⟨_, _, _, _, _, _, _, nd⟩ := da; exact nd
 refine Calls.call_function_entry kind_sorted plain_sorted entry_sorted (args_sorted1 _) ?_
 unfold Builtin.«sorted»
 refine wpAny_bind (m := checkCount "sorted" 1 1 _) (wpAny_pure (wpAny_bind (kdx_collect (A := X.A.in1) (knd := be X.prog X.w) (kvs := vs) (ep := ep) (I.ok.hd hc) vw da (by rw [<- rel.length]; exact z) fun h' tk as hk hl hG => ?_)))
 have hlm : as.length = m.length := by omega
 have e1 : ((as.zip m).map fun p => ((p.1, p.2.1, [p.2.2]) : TK)).map (·.1) = as := by
  rw [List.map_map]
  have : ((fun x : TK => x.1) ∘ fun p : Addr × Str × V => ((p.1, p.2.1, [p.2.2]) : TK)) = Prod.fst := rfl
  rw [this, List.map_fst_zip (by omega)]
 have e2 : ((as.zip m).map fun p => ((p.1, p.2.1, [p.2.2]) : TK)).map (·.2) = m.map fun p => (p.1, [p.2]) := by
  rw [List.map_map]
  have : ((fun x : TK => x.2) ∘ fun p : Addr × Str × V => ((p.1, p.2.1, [p.2.2]) : TK)) = (fun p : Str × V => (p.1, [p.2])) ∘ Prod.snd := rfl
  rw [this, <- List.map_map, List.map_snd_zip (by omega)]
 have e3 : ((as.zip m).map fun p => ((p.1, p.2.1, [p.2.2]) : TK)).map (fun r => V.ref r.1) = as.map V.ref := by
  have : (fun r : TK => V.ref r.1) = V.ref ∘ (fun r : TK => r.1) := rfl
  rw [this, <- List.map_map, e1]
 have pairs : ∀ r ∈ (as.zip m).map fun p => ((p.1, p.2.1, [p.2.2]) : TK), ∃ (x : Str) (y : V) (u w' : Value), r.2 = (x, [y]) /\ aX (.str x) u /\ aX y w' /\ h'.get? r.1 = some { cls := .type "tuple", data := .seq #[u, w'] } := fun r hr => by
  obtain ⟨⟨a, x, y⟩, hp, rfl⟩ := List.mem_map.mp hr
  obtain ⟨j, hj⟩ := List.getElem?_of_mem hp
  obtain ⟨ha, hm⟩ := List.getElem?_zip_eq_some.mp hj
  obtain ⟨key, k, w', g1, g2, g3⟩ := hG.pairs j a ha
  obtain ⟨y', hy, ry⟩ := rel.at g1
  rw [List.getElem?_map, hm] at hy
  have hy' : ((Sum.inr x : Key), y) = (k, y') := Option.some.inj hy
  injection hy' with k1 k2
  subst k1 k2
  exact ⟨x, y, key, w', rfl, vn g2, ry, g3⟩
 generalize hrs : (as.zip m).map (fun p => ((p.1, p.2.1, [p.2.2]) : TK)) = rs at e1 e2 e3 pairs
 have lrs : rs.length = m.length := by rw [<- hrs, List.length_map, List.length_zip]; omega
 have nda : (rs.map (·.1)).Nodup := by rw [e1]; exact hG.rise.imp fun h => Nat.ne_of_lt h
 have above : ∀ r ∈ rs, s.heap.objs.size <= r.1 := fun r hr => Nat.le_of_lt (hG.above r.1 (by rw [<- e1]; exact List.mem_map_of_mem hr))
 have tup : ∀ (Hx : Hp) (r : TK), r ∈ rs -> bg X.prog X.w Hx h' r.1 (.tup (.str r.2.1 :: r.2.2)) := fun Hx r hr => by
  obtain ⟨x, y, u, w', er, r1, r2, g⟩ := pairs r hr
  rw [er]
  exact ⟨by show 2 <= sizeLine; rw [sizeLine_eq]; decide, [u, w'], .cons r1 (.cons r2 .nil), ⟨_, g, rfl, 0, rfl⟩, ⟨_, g, rfl⟩⟩
 have I1 : Inv X pins σ (lays H rs) { s with heap := h', toks := tk } := I.lays hk nda above fun r hr => tup _ r hr
 have s1 : ao H (lays H rs) := fun b o e => by
  have ho : ∀ r ∈ rs, r.1 ≠ b := fun r hr z' => by
   have h1 := above r hr
   rw [z'] at h1
   exact absurd (I.hok.lt e) (Nat.not_lt.mpr h1)
  rw [iS ho]; exact e
 refine wpAny_bind (wpAny_newList ?_ (by rw [List.length_map, hlm, sizeLine_eq]; omega))
 have rvals : aU (rs.map fun r => V.ref r.1) (as.map Value.ref) := by
  have := dM rs
  have e4 : rs.map (fun p => Value.ref p.1) = as.map Value.ref := by
   rw [<- e1, List.map_map]; rfl
  rwa [e4] at this
 have I2 := I1.lnew (t' := tk) (its := as.map Value.ref) rvals (by rw [List.length_map, lrs, sizeLine_eq]; omega)
 have fr : lays H rs h'.objs.size = none := I1.fresh
 have s2 : ao (lays H rs) (upd (lays H rs) h'.objs.size (.lst (rs.map fun r => V.ref r.1))) := ac fr _
 have inr : ∀ r ∈ rs, lays H rs r.1 = some (.tup (.str r.2.1 :: r.2.2)) := fun r hr => pT nda hr
 have hnone : H h'.objs.size = none := by
  cases e : H h'.objs.size with
  | none => rfl
  | some o => have := s1 _ _ e; rw [fr] at this; cases this
 have nd2 : (rs.map (·.2.1)).Nodup := by
  have e5 : rs.map (·.2.1) = m.map (·.1) := by
   have := congrArg (List.map Prod.fst) e2
   simpa [List.map_map, Function.comp_def] using this
  have e6 : (m.map (·.1)).map (Sum.inr : Str -> Key) = vs.map (·.1) := by
   rw [<- rel.keys, List.map_map, List.map_map]; rfl
  rw [e5]
  rw [<- e6] at ndk
  rw [List.Nodup, List.pairwise_map] at ndk
  exact ndk.imp fun h e => h (by rw [e])
 refine wpAny_bind (wpAny_holding (tV (A := X.A.in1) (l := h'.objs.size) (ps := rs) I2 ab (fun r hr => s2 _ _ (inr r hr)) nd2 (by omega) fun qs h2 pq pw I3 => ?_))
 refine wpAny_pure ⟨_, rfl, .ref h'.objs.size, _, I3, rfl, q _ _ qs (fun b o e => ?_) hnone (fun r hr => ⟨?_, I.hok.fresh (above r (pq.mem_iff.mp hr))⟩) ab (by rw [<- e2]; exact pq.map _) pw⟩
 ·have := s2 _ _ (s1 _ _ e)
  rw [aq (fun z' => by rw [z', hnone] at e; cases e)]
  exact this
 ·have hm := pq.mem_iff.mp hr
  rw [aq (ai (inr r hm) fr)]
  exact s2 _ _ (inr r hm)
end
open PySem PySem.Spec PyProof.Rows
section
variable {X : Cx} {pins : List (Addr × Obj)} {σ : St} {H : Hp} {s : Shared}
end
section
variable {X : Cx}
end
structure qh (K : PySem.W.Frag) (x qual : Str) (st : Stmt) (f : Addr) (fd : FuncData) (dV : Value) : Prop where
 ex : ∃ (oc : Value) (od : Option Addr) (kV doc pm : Value) (an : Option Addr) (cdv ct : Value) (osl : Array (Option Value)),
  fd = PySem.W.fnOf x qual (aT st) (aP st) (aj st) dV kV doc pm an cdv ct /\ K.lookup f = some ⟨oc, od, .func fd, osl⟩ /\ PySem.W.codeIn K cdv qual = true
section
variable {P : Program} {w : World} {K : PySem.W.Frag} {mg : Str -> Option Value} {base : Heap}
theorem qh.ok {x qual : Str} {st : Stmt} {f : Addr} {fd : FuncData} {dV : Value} {N ps : List Str} {k : Nat} {sp : Sp} (F : qh K x qual st f fd dV) (S : aW N ps (aj st)) (len : ∀ vs H Q E, sp vs H Q E -> vs.length = ps.length)
  (hbody : ∀ (cdv : Value) (A : Around) (outer : List Env) (s : Shared) (H : Hp) (vs : List V) (Q : VK) (E : XK), cR k (A.deeper (PyProof.Rows.envOfC qual (aj st) s.heap.objs.size f cdv)) -> sp vs H Q E ->
   ∃ t, PSs (nN CX0 P w K mg base N qual (aj st) f cdv A outer s H E).nox (aP st) t /\ t { nx := fun _ H' => Q .non H', rt := Q } (gg N vs) H) : br P w K mg base CX0 (k + 1) f fd ps sp := by
 obtain ⟨oc, od, kV, doc, pm, an, cdv, ct, osl, rfl, lk, hcd⟩ := F.ex
 refine vo lk hcd S len fun A outer s H vs Q E hr hsp => ?_
 obtain ⟨t, h, q⟩ := hbody cdv A outer s H vs Q E hr hsp
 exact ⟨t, h.nox, q⟩
theorem qh.binds {x qual : Str} {st : Stmt} {f T : Addr} {fd : FuncData} {ps : List Str} {ds : List Value} {oT : Obj} {its : Array Value} {n : Nat} (F : qh K x qual st f fd (.ref T)) (lT : K.lookup T = some oT) (dT : oT.data = .seq its n)
  (h : ∀ (kV doc pm : Value) (an : Option Addr) (cdv ct : Value) (us : List Value), (us ++ ds).length = ps.length -> ∃ kk : Option (Array Value) -> Sem (List (Str × Value)), bindArgs (PySem.W.fnOf x qual (aT st) (aP st) (aj st) (.ref T) kV doc pm an cdv ct) ⟨us, []⟩ = seqItems? (.ref T) >>= kk /\ kk (some its) = pure (ps.zip (us ++ ds))) : fw K fd ps ds := by
 obtain ⟨oc, od, kV, doc, pm, an, cdv, ct, osl, rfl, lk, hcd⟩ := F.ex
 intro s us hin hl
 obtain ⟨kk, h1, h2⟩ := h kV doc pm an cdv ct us hl
 exact BindsTo.of_defaults (T := T) rfl (hin T oT lT) dT h1 h2
end
structure qp (P : Program) (w : World) (K : PySem.W.Frag) (mg : Str -> Option Value) (base : Heap) (k : Nat) (x : Str) (ps : List Str) (sp : Sp) (dvs : List V) : Prop where
 ex : ∃ f fd ds, br P w K mg base CX0 k f fd ps sp /\ fw K fd ps ds /\ aU dvs ds /\ PySem.W.keepIn K (.ref f) = true /\ mg x = some (.ref f)
theorem qp.up {P : Program} {w : World} {K : PySem.W.Frag} {mg : Str -> Option Value} {base : Heap} {j k : Nat} {x : Str} {ps : List Str} {sp : Sp} {dvs : List V} (d : qp P w K mg base j x ps sp dvs) (h : j <= k) : qp P w K mg base k x ps sp dvs :=
 let ⟨f, fd, ds, F, b, v, kp, m⟩ := d.ex
 ⟨f, fd, ds, F.mono h, b, v, kp, m⟩
theorem uu {X : Cx} {k : Nat} {x : Str} {ps : List Str} {sp : Sp} {dvs : List V} {p pos : Pos} {e : Expr} {es : List Expr} {t : TA} (d : qp X.prog X.w X.K X.mg X.base k x ps sp dvs) (hr : cR k X.A) (hg : Gl X x) (ha : PA X (e :: es) t) (hdb : (x == ("__debug__" : Str)) = false := by decide)
  (he : starEach (e :: es) X.env = (false, eval e X.env) :: starEach es X.env := by rfl) (hpl : (backTo pos (starEach es X.env)).any (·.1) = false := by rfl) : PE X (.Call (.Name x p) (e :: es) [] pos) (sM sp dvs E0 t) := by
 obtain ⟨f, fd, ds, F, b, v, kp, m⟩ := d.ex
 exact pi F hr hg m kp b v tu ha hdb he hpl
open PySem PySem.Spec PyProof.Rows PySem.W
section
variable {X : Cx} {e st : Expr} {te : TE} {ts : TO} {p2 pos : Pos}
end
section
variable {X : Cx}
theorem pR : OpR X (binaryOp .Mult) (rI IntMulOk fun i j => .int (i * j)) := opI fun _ _ _ _ _ _ _ hc q => mul_int q hc
theorem oW {k : Int} {n : Nat} (h1 : -(2 ^ n) < k) (h2 : k < 2 ^ n) : Builtin.Int.intBits k <= n := by
 unfold Builtin.Int.intBits
 split
 ·exact Nat.zero_le _
 ·have hn : k.natAbs < 2 ^ n := by
   have e : ((2 ^ n : Nat) : Int) = (2 : Int) ^ n := by simp
   omega
  have : k.natAbs.log2 < n := by
   rcases Nat.eq_zero_or_pos k.natAbs with h0 | hp
   ·rename_i hne
    have : k = 0 := Int.natAbs_eq_zero.mp h0
    simp [this] at hne
   ·exact (Nat.log2_lt (Nat.ne_of_gt hp)).mpr hn
  omega
theorem uf {i j : Int} (h1 : -(2 ^ 1000) < i) (h2 : i < 2 ^ 1000) (h3 : -(2 ^ 1000) < j) (h4 : j < 2 ^ 1000) : IntMulOk i j := by
 have a := oW h1 h2
 have b := oW h3 h4
 unfold IntMulOk Builtin.Int.intTooBig
 have e : decide (((Builtin.Int.intBits i + Builtin.Int.intBits j : Nat) : Int) > (bitsLine : Int)) = false := decide_eq_false (by
  have : (bitsLine : Int) = 134217728 := by decide +kernel
  omega)
 simp only [Int.natCast_add] at e
 rw [e]
 simp
end
theorem nh (t : SetTable) (n : Nat) : (t.orStandIn n).led = t.led /\ ((t.orStandIn n).plain = true -> t.plain = true) := by
 unfold SetTable.orStandIn
 split
 ·exact ⟨rfl, fun h => h⟩
 ·exact ⟨rfl, fun h => by cases h⟩
theorem uZ (t : SetTable) (es : Array (Int × Value)) (h : Int) (x : Value) : (layNew t es h x).2.1.led = t.led /\ ((layNew t es h x).2.1.plain = true -> t.plain = true) := by
 unfold layNew
 split
 ·rename_i slot wd _
  obtain ⟨a, b⟩ := nh (t.put slot).1 (SetTable.insertAt es (t.put slot).2 (h, x)).size
  exact ⟨a, b⟩
 ·exact ⟨rfl, fun h => by cases h⟩
theorem ox {t t' : SetTable} {hs : Array Int} {n : Nat} {o : Array Nat} (h : t.relaid hs n = some (t', o)) : t'.led = t.led /\ t'.plain = t.plain := by
 unfold SetTable.relaid SetTable.laid at h
 cases e : SetTable.layClean (SetTable.sizeAbove n - 1) hs with
 | none => rw [e] at h; cases h
 | some ow =>
  rw [e] at h
  have h2 := Option.some.inj h
  injection h2 with h3 h4
  subst h3
  exact ⟨rfl, rfl⟩
theorem qK (t : SetTable) (es : Array (Int × Value)) (n : Nat) : (relayAll t es n).2.1.led = t.led /\ ((relayAll t es n).2.1.plain = true -> t.plain = true) := by
 unfold relayAll
 split
 ·rename_i t' o h
  obtain ⟨a, b⟩ := ox h
  dsimp only
  split
  ·exact ⟨a, fun z => by rw [<- b]; exact z⟩
  ·exact ⟨rfl, fun z => by cases z⟩
 ·exact ⟨rfl, fun z => by cases z⟩
def dF (e : Int × Value) : Str := match e.2 with | .str x _ => x | _ => default
def db (P : Program) (w : World) (h : Heap) (a : Addr) (xs : List Str) : Prop :=
 ∃ o es ep t, h.get? a = some o /\ o.ExactSet /\ o.data = .set es ep t /\ ElemsOf (PySem.strKind P w) es.toList /\ es.size < scanBound /\ t.fits es.size = true /\ t.led = (!w.params.followText "set-order") /\ (t.plain = true -> es.size = 0) /\ (es.toList.map dF).Perm xs
section
variable {P : Program} {w : World} {A : Around} {E : Value -> Shared -> Prop} {s : Shared}
theorem gt {y : Str} {e : Int × Value} (h : (PySem.strKind P w).is y e.2 = true) : dF e = y := by
 obtain ⟨t, ht⟩ := Value.isStrOf_shape h
 unfold dF
 rw [ht]
theorem pY {e : Int × Value} (h : ∃ k, (PySem.strKind P w).is k e.2 = true) : (PySem.strKind P w).is (dF e) e.2 = true := by
 obtain ⟨k, hk⟩ := h
 rw [gt hk]; exact hk
theorem db.put {h : Heap} {a : Addr} {o : Obj} {es es' : Array (Int × Value)} {ep : Nat} {t t' : SetTable} {xs : List Str} (ho : h.get? a = some o) (hex : o.ExactSet) (hd : o.data = .set es ep t) (hel : ElemsOf (PySem.strKind P w) es'.toList)
  (hb : es'.size < scanBound) (hf : t'.fits es'.size = true) (hl : t'.led = (!w.params.followText "set-order")) (hp : t'.plain = true -> es'.size = 0) (hx : (es'.toList.map dF).Perm xs) :
  (h.update a (Obj.putSet es' t')).get? a = some { o with data := .set es' (ep + 1) t' } /\ db P w (h.update a (Obj.putSet es' t')) a xs := by
 have hg : (h.update a (Obj.putSet es' t')).get? a = some { o with data := .set es' (ep + 1) t' } := by
  have := Heap.get?_update_self (Obj.putSet es' t') ho (by rw [putSet_of es' t' hd]; rfl)
  rw [putSet_of es' t' hd] at this; exact this
 exact ⟨hg, _, es', ep + 1, t', hg, hex, rfl, hel, hb, hf, hl, hp, hx⟩
theorem mE {g : Bool -> Sem Unit} (hg : ∀ (b : Bool) (s₁ : Shared) (Q' : Unit -> Shared -> Prop), Q' () s₁ -> wpAny (model P w) A (g b) Q' E s₁) {a : Addr} {o : Obj} {es es1 : Array (Int × Value)} {ep : Nat} {t t2 : SetTable} {xs : List Str} {wd : Bool} {R : Option Bool -> Shared -> Prop}
  (ho : s.heap.get? a = some o) (hex : o.ExactSet) (hd : o.data = .set es ep t) (hel : ElemsOf (PySem.strKind P w) es1.toList) (hb : es1.size < scanBound) (hf : t2.fits es1.size = true) (hl : t2.led = (!w.params.followText "set-order")) (hp : t2.plain = false) (hx : (es1.toList.map dF).Perm xs)
  (h : ∀ h', Heap.SameBut a s.heap h' -> db P w h' a xs -> R (some true) { s with heap := h' }) :
  wpAny (model P w) A (do
    storeSet a es1 t2
    if (!wd && t2.tooFull) = true then do
        g (relayAll t2 es1 (SetTable.grown es1.size)).2.2
        storeSet a (relayAll t2 es1 (SetTable.grown es1.size)).1 (relayAll t2 es1 (SetTable.grown es1.size)).2.1
        pure (some true)
     else pure (some true)) R E s := by
 refine wpAny_bind (wpAny_storeSet_of ho hd ?_ (fits_of_scanBound hb))
 obtain ⟨ho1, hS1⟩ := db.put (P := P) (w := w) ho hex hd hel hb hf hl (fun z => by rw [hp] at z; cases z) hx
 have sb1 := Heap.SameBut.update s.heap a (Obj.putSet es1 t2)
 split
 ·have pm := relayAll_perm t2 es1 (SetTable.grown es1.size)
  have ft := relayAll_fits t2 es1 (SetTable.grown es1.size)
  have ld := qK t2 es1 (SetTable.grown es1.size)
  generalize relayAll t2 es1 (SetTable.grown es1.size) = Rl at pm ft ld ⊢
  obtain ⟨es2, t3, gave⟩ := Rl
  dsimp only at pm ft ld ⊢
  have sz : es2.size = es1.size := by rw [<- Array.length_toList, pm.length_eq, Array.length_toList]
  refine wpAny_bind (hg _ _ _ (wpAny_bind (wpAny_storeSet_of ho1 rfl ?_ (fits_of_scanBound (by rw [sz]; exact hb)))))
  obtain ⟨_, hS2⟩ := db.put (P := P) (w := w) (xs := xs) ho1 hex rfl (hel.perm pm) (by rw [sz]; exact hb) ft (by rw [ld.1]; exact hl) (fun z => by have := ld.2 z; rw [hp] at this; cases this) ((pm.map _).trans hx)
  exact wpAny_pure (h _ (sb1.trans (Heap.SameBut.update _ a _)) hS2)
 ·exact wpAny_pure (h _ sb1 hS1)
theorem ni {a : Addr} {xs : List Str} {y : Str} {tk : Tok} {Q : Bool -> Shared -> Prop} (hS : db P w s.heap a xs) (hlen : xs.length + 1 < scanBound)
  (h : ∀ h' b, Heap.SameBut a s.heap h' -> db P w h' a (if y ∈ xs then xs else xs ++ [y]) -> Q b { s with heap := h' }) : wpAny (model P w) A (setAddHashed a (.str y tk) ((PySem.strKind P w).hash y)) Q E s := by
 obtain ⟨o, es, ep, t, ho, hex, hd, hel, hb, hf, hl, hpl, hx⟩ := hS
 have hkey : (PySem.strKind P w).is y (.str y tk) = true := strKind_is _ _ _ _
 have hsc : (Value.str y tk).scannable = true := rfl
 have sz : es.size = xs.length := by rw [<- hx.length_eq, List.length_map, Array.length_toList]
 unfold setAddHashed setAddHashedIn
 refine wpAny_holding (wpAny_bind (wpAny_setState_of ho hd hf ?_))
 dsimp only
 rw [byScan_of hsc hb hel]
 simp only [↓reduceIte]
 unfold setAddByScan
 refine wpAny_bind (wpAny_bind (wpAny_rule (wpAny_bind (wpAny_setScan_of hkey ho hd hf hel ?_))))
 cases hr : List.findIdx? (fun e => (PySem.strKind P w).is y e.2) es.toList with
 | some j =>
  dsimp only
  obtain ⟨hj, hpj, _⟩ := List.findIdx?_eq_some_iff_getElem.mp hr
  have hy : y ∈ xs := hx.mem_iff.mp (List.mem_map.mpr ⟨es.toList[j], List.getElem_mem hj, gt hpj⟩)
  have e : s = { s with heap := s.heap } := by cases s; rfl
  have q := h s.heap false (Heap.SameBut.refl a s.heap) (by rw [if_pos hy]; exact ⟨o, es, ep, t, ho, hex, hd, hel, hb, hf, hl, hpl, hx⟩)
  rw [<- e] at q
  exact wpAny_pure (wpAny_pure q)
 | none =>
  dsimp only
  have hy : y ∉ xs := fun z => by
   obtain ⟨e, he, e1⟩ := List.mem_map.mp (hx.mem_iff.mpr z)
   have := List.findIdx?_eq_none_iff.mp hr e he
   rw [<- e1, pY (hel.keys e he)] at this
   cases this
  rw [if_neg hy] at h
  have hgw : ∀ (b : Bool) {s₁ : Shared} {Q' : Unit -> Shared -> Prop}, Q' () s₁ -> wpAny (model P w) A (match b with | true => rule "set.scan.the-table-gave-way" | false => pure ()) Q' E s₁ :=
   fun b s₁ Q' hq => by cases b <;> first | exact wpAny_pure hq | exact wpAny_rule hq
  have pm := layNew_perm t es ((PySem.strKind P w).hash y) (.str y tk)
  have ft := layNew_fits t es ((PySem.strKind P w).hash y) (.str y tk)
  have ld := uZ t es ((PySem.strKind P w).hash y) (.str y tk)
  generalize layNew t es ((PySem.strKind P w).hash y) (.str y tk) = L at pm ft ld ⊢
  obtain ⟨es1, t1, wd, gave⟩ := L
  dsimp only at pm ft ld ⊢
  rw [Array.toList_push] at pm
  have hel1 : ElemsOf (PySem.strKind P w) es1.toList := (hel.push hkey hsc).perm pm
  have sz1 : es1.size = es.size + 1 := by rw [<- Array.length_toList, pm.length_eq, List.length_append, Array.length_toList]; rfl
  have hb1 : es1.size < scanBound := by rw [sz1, sz]; exact hlen
  have hx1 : (es1.toList.map dF).Perm (xs ++ [y]) := by
   refine (pm.map dF).trans ?_
   rw [List.map_append]
   exact hx.append (List.Perm.refl _)
  refine wpAny_bind (hgw _ ?_)
  split
  ·refine wpAny_bind ?_
   rw [hashByValue_scannable 8 hsc]
   refine wpAny_pure ?_
   refine mE ?_ ho hex hd hel1 hb1 (t2 := { t1 with plain := false }) (SetTable.fits_plain_off ft) (by rw [<- hl]; exact ld.1) rfl hx1 ?_
   ·intro b s₁ Q' hq; cases b <;> first | exact wpAny_pure hq | exact wpAny_rule hq
   ·intro h' sb hS'; dsimp only; exact wpAny_pure (h h' true sb hS')
  ·rename_i hnp
   refine wpAny_bind (wpAny_pure ?_)
   simp only [↓reduceIte]
   refine mE ?_ ho hex hd hel1 hb1 ft (by rw [<- hl]; exact ld.1) (by cases z : t1.plain with | false => rfl | true => exact absurd z hnp) hx1 ?_
   ·intro b s₁ Q' hq; cases b <;> first | exact wpAny_pure hq | exact wpAny_rule hq
   ·intro h' sb hS'; dsimp only; exact wpAny_pure (h h' true sb hS')
end
def mP (acc : List Str) (y : Str) : List Str := if y ∈ acc then acc else acc ++ [y]
def uq (val : Nat -> Str) (i : Nat) : List Str := ((List.range i).map val).foldl mP []
theorem ib (val : Nat -> Str) (i : Nat) : uq val (i + 1) = mP (uq val i) (val i) := by
 unfold uq
 rw [List.range_succ, List.map_append, List.foldl_append]
 rfl
theorem nV (val : Nat -> Str) : ∀ i, (uq val i).length <= i
 | 0 => Nat.le_refl _
 | i + 1 => by
  have ih := nV val i
  rw [ib]
  unfold mP
  split
  ·omega
  ·rw [List.length_append, List.length_singleton]; omega
theorem jj (val : Nat -> Str) : ∀ i, (uq val i).Nodup
 | 0 => List.nodup_nil
 | i + 1 => by
  rw [ib]
  unfold mP
  split
  ·exact jj val i
  ·rename_i h
   exact List.nodup_append.mpr ⟨jj val i, by simp, fun a ha b hb e => h (by rw [List.mem_singleton.mp hb] at e; rw [<- e]; exact ha)⟩
theorem rf (val : Nat -> Str) (x : Str) : ∀ i, x ∈ uq val i ↔ ∃ j, j < i /\ val j = x
 | 0 => ⟨(fun h => nomatch h), (fun ⟨j, h, _⟩ => absurd h (Nat.not_lt_zero _))⟩
 | i + 1 => by
  rw [ib]
  unfold mP
  have ih := rf val x i
  constructor
  ·intro h
   split at h
   ·obtain ⟨j, hj, e⟩ := ih.mp h
    exact ⟨j, by omega, e⟩
   ·rcases List.mem_append.mp h with h | h
    ·obtain ⟨j, hj, e⟩ := ih.mp h
     exact ⟨j, by omega, e⟩
    ·exact ⟨i, by omega, (List.mem_singleton.mp h).symm⟩
  ·rintro ⟨j, hj, e⟩
   split
   ·rename_i h
    by_cases hji : j = i
    ·rw [<- e, hji]; exact h
    ·exact ih.mpr ⟨j, by omega, e⟩
   ·by_cases hji : j = i
    ·rw [<- e, hji]; exact List.mem_append_right _ (List.mem_singleton.mpr rfl)
    ·exact List.mem_append_left _ (ih.mpr ⟨j, by omega, e⟩)
section
variable {P : Program} {w : World} {A : Around} {R : Result -> Shared -> Prop} {I : Addr} {fp wr : List Addr} {G : Array GenState -> Array GenState -> Prop} {n : Nat} {Pv : Nat -> Value -> Prop} {St : Nat -> Shared -> Prop}
theorem db.at' {h h' : Heap} {a : Addr} {xs : List Str} (x : db P w h a xs) (k : ∀ o, h.get? a = some o -> h'.get? a = some o) : db P w h' a xs := let ⟨o, es, ep, t, ho, r⟩ := x; ⟨o, es, ep, t, k o ho, r⟩
theorem rL (W : WalksS P w A.in1 I fp wr G n Pv St) (S : Addr) (hSf : S ∉ fp) (val : Nat -> Str) (hval : ∀ i v, Pv i v -> ∃ t, v = .str (val i) t) (hb : n + 1 < scanBound) :
  ∀ (k i : Nat) (s : Shared), n - i = k -> i <= n -> St i s -> db P w s.heap S (uq val i) -> (∀ s', Moved (S :: wr) G s s' -> db P w s'.heap S (uq val n) -> R (.ok (.ret .none)) s') ->
   codeAny (model P w) A (.builtin "set.update.loop" ⟨[.ref S, .ref I], []⟩) R s := by
 have hSw : S ∉ wr := fun h => hSf (W.sub _ h)
 have more : ∀ b ∈ wr, b ∈ S :: wr := fun b hb => List.mem_cons_of_mem _ hb
 intro k
 induction k with
 | zero =>
  intro i s hk hi st hS fin
  obtain rfl : i = n := by omega
  refine codeAny_builtin F.entry_set_update_loop ?_
  rw [Around.under_plainId F.plain_set_update_loop _]
  show wpAny _ A.in1 (pyNext (.ref I) >>= _) _ _ s
  refine wpAny_bind (W.done s _ _ st fun s' hm => ?_)
  show wpAny _ A.in1 (ret Value.none) _ _ s'
  exact wpAny_pure (fin s' (hm.mono more) (hS.at' fun o e => hm.heap S _ hSw e))
 | succ k ih =>
  intro i s hk hi st hS fin
  have hlt : i < n := by omega
  refine codeAny_builtin F.entry_set_update_loop ?_
  rw [Around.under_plainId F.plain_set_update_loop _]
  show wpAny _ A.in1 (pyNext (.ref I) >>= _) _ _ s
  refine wpAny_bind (W.item i s _ _ hlt st fun v s' hP st' hm => ?_)
  obtain ⟨t, rfl⟩ := hval i v hP
  have hS' : db P w s'.heap S (uq val i) := hS.at' fun o e => hm.heap S _ hSw e
  show wpAny _ A.in1 (holding [Value.str (val i) t] (setAdd S (.str (val i) t)) >>= _) _ _ s'
  refine wpAny_bind (wpAny_holding ?_)
  unfold setAdd
  refine wpAny_holding (wpAny_bind ((PySem.strKind P w).pyHash (k := val i) (strKind_is _ _ _ _) ?_))
  have room : (uq val i).length + 1 < scanBound := by have := nV val i; omega
  refine ni (s := { s' with toks := s'.toks + 1 }) hS' room fun h' b sb hS2 => ?_
  have hSi : db P w h' S (uq val (i + 1)) := by rw [ib]; exact hS2
  refine wpAny_pure ⟨plainId_quiet F.plain_set_update_loop _, ih (i + 1) _ (by omega) hlt (W.frame _ s' _ _ st' (Nat.le_succ _) fun b hb o e => ?_) hSi fun s'' hm'' hS'' => ?_⟩
  ·rw [sb.2 b (fun h : b = S => hSf (by rw [<- h]; exact hb))]; exact e
  ·refine fin s'' (Moved.trans W.gtrans ((hm.mono more).then_heap (Nat.le_succ _) fun b o hb e => ?_) hm'') hS''
   rw [sb.2 b (fun h : b = S => hb (by rw [h]; exact List.mem_cons_self))]; exact e
end
def cG (w : World) : Obj := { cls := .type "set", dict := none, data := .set #[] 0 (.fresh 0 0 (!w.params.followText "set-order")) }
section
variable {P : Program} {w : World} {A : Around} {E : Value -> Shared -> Prop} {s : Shared}
theorem jo (a : Value) {Q₁ : Value -> Shared -> Prop} (h : Q₁ (.ref s.heap.objs.size) { s with heap := s.heap.push (cG w) }) :
  codeAny (model P w) A (.call (.builtin "set.__new__") ⟨[.type "set", a], []⟩) (wants Q₁ E) s := by
 refine codeAny_of_tree ?_
 show wpAny _ A.in1 (do checkBuiltinCall "set.__new__" ⟨[.type "set", a], []⟩; again (.builtin "set.__new__" ⟨[.type "set", a], []⟩)) _ _ s
 refine wpAny_bind (wpAny_of_eq (PySem.F.newCall_set_1 a) (wpAny_pure ⟨plainId_quiet PySem.F.plain_set_new _, codeAny_builtin PySem.F.entry_set_new ?_⟩))
 rw [Around.under_plainId PySem.F.plain_set_new _]
 unfold Builtin.«set.__new__» Builtin.Frozenset.newClass
 have hsub := sub_set_self
 obtain ⟨hp, g, d, tk, os⟩ := s
 dsimp only
 wp_walk
 refine wpAny_askSetting (wpAny_pure ?_)
 dsimp only
 simp only [newObj]
 refine wpAny_bind (wpAny_alloc (wpAny_pure ?_))
 exact wpAny_pure h
theorem nH (h : Heap) : db P w (h.push (cG w)) h.objs.size [] :=
 ⟨_, #[], 0, _, Heap.get?_push_size _ rfl, ⟨rfl, rfl, rfl⟩, rfl, fun e he => by simp at he, by decide, rfl, rfl, fun _ => rfl, List.Perm.refl _⟩
theorem jl {l : Addr} {items : Array Value} {ys : List Str} {Q : Value -> Shared -> Prop} (hh : A.handled = none) (hl : s.heap.IsList l items) (hi : ∀ (i : Nat) (v : Value), items[i]? = some v -> ∃ t, v = .str (ys.getD i default) t) (hb : items.size + 1 < scanBound)
  (h : ∀ (h' : Heap) (tk : Nat), db P w h' s.heap.objs.size (uq (fun i => ys.getD i default) items.size) -> (∀ b o, b < s.heap.objs.size -> s.heap.get? b = some o -> h'.get? b = some o) -> Q (.ref s.heap.objs.size) { s with heap := h', toks := tk }) :
  wpAny (model P w) A (call (.type "set") [.ref l]) Q E s := by
 obtain ⟨c, tl, hmro⟩ := PySem.F.called_set.mro
 have hmade := PySem.F.called_set.made
 have hsub := PySem.F.called_set.sub
 refine wpAny_call (codeAny_of_tree ?_)
 show wpAny _ _ (callAny (.type "set") _) _ _ _
 refine wpAny_pure ⟨Code.quiet_builtin _ (by decide +kernel), codeAny_builtin PySem.F.entry_type_call ?_⟩
 rw [Around.under_plain (weight_type_call_type "set" [.ref l] []) rfl]
 have h1 := PySem.F.called_set.notType
 have h2 := PySem.F.called_set.canCreate
 have hct := PySem.F.typeCall_set_1 (.ref l)
 repeat (any_goals (first | assumption | wp_step))
 refine codeAny_mono (jo (.ref l) (E := E) (Q₁ := fun obj s₁ => obj = .ref s.heap.objs.size /\ s₁ = { s with heap := s.heap.push (cG w) }) ⟨rfl, rfl⟩) fun r s₁ hr => ?_
 cases r with
 | error e => exact hr
 | ok fl =>
  cases fl with
  | ret obj =>
   obtain ⟨rfl, rfl⟩ := hr
   have hS : (s.heap.push (cG w)).get? s.heap.objs.size = some (cG w) := Heap.get?_push_size _ rfl
   have hT : Shared.TypeIs { s with heap := s.heap.push (cG w) } (.ref s.heap.objs.size) "set" := ⟨_, hS, rfl⟩
   have hli := PySem.F.called_set.init.lookup
   have hbi := PySem.F.called_set.init.bind (.ref s.heap.objs.size)
   repeat (any_goals (first | assumption | wp_step))
   refine codeAny_mono (codeAny_call_builtin (R := wants (fun r s₂ => r = .none /\ ∃ h' tk, s₂ = { s with heap := h', toks := tk } /\ db P w h' s.heap.objs.size (uq (fun i => ys.getD i default) items.size) /\ (∀ b o, b < s.heap.objs.size -> s.heap.get? b = some o -> h'.get? b = some o)) E)
    PySem.F.called_set.init.plain PySem.F.entry_set_init (check_set_init_1 hT ?_)) fun r₂ s₂ hr₂ => ?_
   ·obtain ⟨ol, hol, hcl, nl, hdl⟩ := hl
    obtain ⟨ocls, odict, odata, oslots⟩ := ol
    simp only at hcl hdl
    subst hcl; subst hdl
    have hol' : (s.heap.push (cG w)).get? l = some { cls := .type "list", dict := odict, data := .seq items nl, slots := oslots } := Heap.get?_push_of_some _ hol
    have hsls := PySem.F.sub_list_set
    have hslf := PySem.F.sub_list_frozenset
    have hne : (Value.type "list" == Value.type "dict") = false := by decide
    have hl1 : (s.heap.push (cG w)).IsList l items := ⟨_, hol', rfl, nl, rfl⟩
    unfold cG at hS hT hol' hl1 ⊢
    unfold Builtin.«set.__init__» noKeywords Builtin.Frozenset.updateFrom
    generalize hPI : pyIter = PI
    wp_walk
    subst hPI
    refine wpAny_pyIter_list hl1 ?_
    refine wpAny_bind (wpAny_runValue ?_)
    have hlS : l < s.heap.objs.size := Heap.lt_size hol
    have hh3 : A.in1.in1.in1.handled = none := by simp [hh]
    have hneI : l ≠ (s.heap.push (cG w)).objs.size := by
     rw [Heap.size_push]; exact Nat.ne_of_lt (Nat.lt_succ_of_lt hlS)
    have hSf : s.heap.objs.size ∉ [(s.heap.push (cG w)).objs.size, l] := by
     rw [Heap.size_push]; simp only [List.mem_cons, List.mem_singleton, List.not_mem_nil, or_false, not_or]
     exact ⟨Nat.ne_of_lt (Nat.lt_succ_self _), Nat.ne_of_gt hlS⟩
    refine rL ((Walks.list hh3 _ l hneI items).toS) s.heap.objs.size hSf (fun i => ys.getD i default) hi hb (items.size - 0) 0 _ (by omega) (Nat.zero_le _)
     ⟨⟨_, Heap.get?_push_size _ rfl, rfl, rfl⟩, (hl1.push _)⟩ ?hS0 ?hR
    case hS0 => exact (nH s.heap).at' fun o e => Heap.get?_push_of_some _ e
    case hR =>
     intro s' hm hS'
     obtain ⟨h', g', d', tk', os'⟩ := s'
     have eg : g' = s.gens := hm.gens
     have ed : d' = s.drawn := hm.drawn
     have eo : os' = s.os := hm.os
     subst eg; subst ed; subst eo
     show wpAny _ _ _ _ _ _
     refine wpAny_pure ?_
     show wpAny _ _ (ret Value.none) _ _ _
     refine wpAny_pure ⟨rfl, h', tk', rfl, hS', fun b o hb e => ?_⟩
     have hb1 : b ≠ s.heap.objs.size := Nat.ne_of_lt hb
     have hb2 : b ≠ (s.heap.push (cG w)).objs.size := by
      rw [Heap.size_push]; exact Nat.ne_of_lt (Nat.lt_succ_of_lt hb)
     exact hm.heap b o (by simp only [List.mem_cons, List.mem_singleton, List.not_mem_nil, or_false, not_or]; exact ⟨hb1, hb2⟩) (Heap.get?_push_of_some _ (Heap.get?_push_of_some _ e))
   ·cases r₂ with
    | error e => exact hr₂
    | ok fl₂ =>
     cases fl₂ with
     | ret r =>
      obtain ⟨rfl, h', tk, rfl, hS', hk'⟩ := hr₂
      repeat (any_goals (first | assumption | wp_step))
      exact h _ _ hS' hk'
     | _ => exact hr₂.elim
  | _ => exact hr.elim
end
theorem jp : entryFor table "set.__iter__" = some Builtin.«frozenset.__iter__» := entryFor_alias (id' := "frozenset.__iter__") (by kernel_rfl) rfl (by decide +kernel) (by kernel_rfl)
theorem cb : Slot "set_iterator" "__next__" "set_iterator.__next__" := .of (owner := "set_iterator") (n := "__next__") (by rw [typeLookup_type, builtinLookup_eq_fast]; kernel_rfl) (by decide +kernel) (by decide +kernel) (by decide +kernel) (by first | exact .inl (by decide +kernel) | exact .inr (by decide +kernel)) (by rw [isSubtype_type]; kernel_rfl)
theorem fc : entryFor table "set_iterator.__next__" = some Builtin.«set_iterator.__next__» := entryFor_of_tree (by kernel_rfl)
theorem fW (a : Value) : argsOk "set_iterator.__next__" ⟨[a], []⟩ := by
 unfold argsOk; kernel_rfl
theorem fD {α : Type} : ∀ (l : List α) (i : Nat) (h : i < l.length), (l[i] :: l.eraseIdx i).Perm l
 | a :: l, 0, _ => .refl _
 | a :: l, i + 1, h => by
  have := fD l i (by simpa using h)
  rw [List.eraseIdx_cons_succ, List.getElem_cons_succ]
  exact (List.Perm.swap _ _ _).trans (this.cons a)
section
variable {P : Program} {w : World} {A : Around} {E : Value -> Shared -> Prop}
theorem nB {s : Shared} {n : Nat} {Q : Nat -> Shared -> Prop} (h0 : n ≠ 0) (h : ∀ i d, i < n -> Q i { s with drawn := d }) : wpAny (model P w) A (choose .order n) Q E s := fun Γ p hΓ => by
 unfold choose
 rw [Sem.wp_choose]
 exact ⟨h0, h _ _ (Nat.mod_lt _ (Nat.pos_of_ne_zero h0))⟩
theorem nz {α : Type} : ∀ (n : Nat) (xs : List α) (s : Shared) {Q : List α -> Shared -> Prop}, xs.length = n -> (∀ ys d, ys.Perm xs -> Q ys { s with drawn := d }) -> wpAny (model P w) A (drawOrder n xs) Q E s
 | 0, [], s, Q, _, h => by
  unfold drawOrder
  exact wpAny_pure (h [] s.drawn (.refl _))
 | n + 1, x :: xs, s, Q, hl, h => by
  unfold drawOrder
  refine wpAny_bind (nB (by simp) fun i d hi => ?_)
  rw [List.getElem?_eq_getElem hi]
  dsimp only
  refine wpAny_bind (nz n ((x :: xs).eraseIdx i) _ (by rw [List.length_eraseIdx_of_lt hi]; simpa using hl) fun ys d' hp => ?_)
  exact wpAny_pure (h _ d' ((hp.cons _).trans (fD _ i hi)))
theorem oX {α : Type} (next : Nat -> Nat) : ∀ (n k : Nat) (left : List α) (out : Array α), left.length = n -> (pickOrder.go next n k left out).toList.Perm (out.toList ++ left)
 | 0, k, left, out, h => by
  rw [List.eq_nil_of_length_eq_zero h, List.append_nil]
  exact .refl _
 | n + 1, k, left, out, h => by
  have hi : next k % left.length < left.length := Nat.mod_lt _ (by omega)
  unfold pickOrder.go
  rw [List.getElem?_eq_getElem hi]
  dsimp only
  refine (oX next n (k + 1) _ _ (by rw [List.length_eraseIdx_of_lt hi]; omega)).trans ?_
  rw [Array.toList_push, List.append_assoc]
  exact List.Perm.append_left _ (fD left _ hi)
theorem oz {α : Type} (next : Nat -> Nat) (xs : Array α) : (pickOrder next xs).toList.Perm xs.toList := by
 have := oX next xs.size 0 xs.toList #[] (by simp)
 simpa [pickOrder] using this
abbrev SIt (h : Heap) (it S : Addr) (first : Value) (i n ep : Nat) : Prop := h.get? it = some { cls := .type "set_iterator", dict := none, data := .fields #[first, .int i 0, .ref S, .int n 0, .int ep 0], slots := #[] }
variable {s : Shared} {it S : Addr} {o : Obj} {es : Array (Int × Value)} {ep n i : Nat} {t : SetTable}
theorem mV {slot slot' : Nat} {x : Value} {Q : Option Value -> Shared -> Prop} (hit : SIt s.heap it S (rawInt slot) i n ep) (ho : s.heap.get? S = some o) (hd : o.data = .set es ep t) (hf : t.fits es.size = true) (hn : es.size = n)
  (hnext : ∀ (A : Around) (E : Value -> Shared -> Prop) (Q' : Option (Value × Nat) -> Shared -> Prop), Q' (some (x, slot')) s -> wpAny (model P w) A (setNext S slot i ep) Q' E s)
  (hQ : ∀ h', SIt h' it S (rawInt slot') (i + 1) n ep -> Heap.SameBut it s.heap h' -> Q (some x) { s with heap := h' }) : wpAny (model P w) A (pyNext (.ref it)) Q E s := by
 have hT : s.TypeIs (.ref it) "set_iterator" := ⟨_, hit, rfl⟩
 unfold pyNext
 refine wpAny_bind (wpAny_attempt (wpAny_callSpecial?_slot (name := Str.ofString "__next__") hT cb (wpAny_call_entry cb hT fc ?_ (fW _))))
 unfold Builtin.«set_iterator.__next__»
 refine wpAny_bind (wpAny_pure ?_)
 refine wpAny_bind (wpAny_fieldsOf hit rfl ?_)
 show wpAny _ _ (setEntries S >>= _) _ _ _
 refine wpAny_bind (wpAny_setEntries_of ho hd hf ?_)
 rw [if_neg (by rw [hn]; simp)]
 show wpAny _ _ (setNext S ((slot : Int).toNat) ((i : Int).toNat) ((ep : Int).toNat) >>= _) _ _ _
 rw [Int.toNat_natCast, Int.toNat_natCast, Int.toNat_natCast]
 refine wpAny_bind (hnext _ _ _ ?_)
 dsimp only
 refine wpAny_bind (wpAny_setField_rec hit (by simp) fun h1 e1 s1 => ?_)
 refine wpAny_bind (wpAny_setField_rec e1 (by simp) fun h2 e2 s2 => ?_)
 refine wpAny_pure ⟨_, rfl, wpAny_pure (hQ h2 ?_ (s1.trans s2))⟩
 have e : ((i + 1 : Nat) : Int) = (i : Int) + 1 := by omega
 show h2.get? it = _
 rw [e]
 simpa [rawInt] using e2
end
section
variable {P : Program} {w : World} {A : Around} {E : Value -> Shared -> Prop} {s : Shared} {it S : Addr} {o : Obj} {es : Array (Int × Value)} {ep n i : Nat} {t : SetTable}
theorem mj {h0 : Heap} {Q : Option Value -> Shared -> Prop} (hh : A.handled = none) (hQ : ∀ h', (∀ b u, h0.get? b = some u -> h'.get? b = some u) -> Q none { s with heap := h' }) :
  wpAny (model P w) A.in1 (newExc (.type "StopIteration") [] >>= fun e => (raiseNew e : Sem PySem.Fin)) (fun _ _ => False) (fun e s' => wpAny (model P w) A (isInstance e (.type "StopIteration")) (fun b s2 => b = true /\ Q none s2) E s') { s with heap := h0 } := by
 refine wpAny_bind ?_
 simp only [newExc, newTuple]
 refine wpAny_bind (wpAny_newObj_type ?_ (by size_fits))
 refine wpAny_bind (m := firstArgMember _ _) (wpAny_of_eq (a := Value.none) (by first | rfl | (simp only [firstArgMember]; rfl)) ?_)
 refine wpAny_newObj_type ?_ (by size_fits)
 simp only [raiseNew]
 refine wpAny_bind (wpAny_handled ?_)
 rw [show A.in1.handled = none from hh]
 refine wpAny_bind (wpAny_pure (wpAny_throw ?_))
 refine wpAny_isInstance (T := "StopIteration") (b := true) ⟨_, Heap.get?_push_size _ rfl, rfl⟩ isSubtype_stop ⟨rfl, ?_⟩
 exact hQ _ fun b u e => Heap.get?_push_of_some _ (Heap.get?_push_of_some _ e)
theorem gn {slot : Nat} {Q : Option Value -> Shared -> Prop} (hh : A.handled = none) (hit : SIt s.heap it S (rawInt slot) i n ep) (ho : s.heap.get? S = some o) (hd : o.data = .set es ep t) (hf : t.fits es.size = true) (hn : es.size = n)
  (hnext : ∀ (A : Around) (E : Value -> Shared -> Prop) (Q' : Option (Value × Nat) -> Shared -> Prop), Q' none s -> wpAny (model P w) A (setNext S slot i ep) Q' E s)
  (hQ : ∀ h', (∀ b u, b ≠ it -> s.heap.get? b = some u -> h'.get? b = some u) -> Q none { s with heap := h' }) : wpAny (model P w) A (pyNext (.ref it)) Q E s := by
 have hT : s.TypeIs (.ref it) "set_iterator" := ⟨_, hit, rfl⟩
 unfold pyNext
 refine wpAny_bind (wpAny_attempt (wpAny_callSpecial?_slot (name := Str.ofString "__next__") hT cb (wpAny_call_entry cb hT fc ?_ (fW _))))
 unfold Builtin.«set_iterator.__next__»
 refine wpAny_bind (wpAny_pure ?_)
 refine wpAny_bind (wpAny_fieldsOf hit rfl ?_)
 show wpAny _ _ (setEntries S >>= _) _ _ _
 refine wpAny_bind (wpAny_setEntries_of ho hd hf ?_)
 rw [if_neg (by rw [hn]; simp)]
 show wpAny _ _ (setNext S ((slot : Int).toNat) ((i : Int).toNat) ((ep : Int).toNat) >>= _) _ _ _
 rw [Int.toNat_natCast, Int.toNat_natCast, Int.toNat_natCast]
 refine wpAny_bind (hnext _ _ _ ?_)
 show wpAny _ _ (setField (.ref it) 2 .none >>= _) _ _ s
 refine wpAny_bind (wpAny_setField hit rfl (by simp) ?_)
 refine wpAny_mono (mj (P := P) (w := w) (A := A) (E := E) (s := s) (Q := Q) hh fun h' k => hQ h' fun b u hb e => k b u ?_) (fun _ _ z => z.elim) fun e s' z => ?_
 ·exact (Heap.SameBut.update ..).extBut b u hb e
 ·refine wpAny_bind (wpAny_mono z (fun b s2 ⟨e1, e2⟩ => ?_) fun _ _ y => y)
  subst e1
  exact wpAny_pure e2
end
section
variable {P : Program} {w : World} {A : Around} {E : Value -> Shared -> Prop} {s : Shared} {it S tp : Addr} {o ot : Obj} {es : Array (Int × Value)} {ep n i m : Nat} {t : SetTable} {pl : Array Value}
theorem sd {p : Nat} {h : Int} {x : Value} {Q : Value -> Shared -> Prop} (ho : s.heap.get? S = some o) (hd : o.data = .set es ep t) (hf : t.fits es.size = true) (he : es[p]? = some (h, x)) (q : Q x s) : wpAny (model P w) A (setNextDrawn S p ep) Q E s := by
 unfold setNextDrawn
 refine wpAny_bind (wpAny_setState_of ho hd hf ?_)
 dsimp only
 rw [if_neg (by simp)]
 rw [he]
 exact wpAny_pure q
theorem sU {p : Nat} {h : Int} {x : Value} {Q : Option Value -> Shared -> Prop} (hit : SIt s.heap it S (.ref tp) i n ep) (htp : s.heap.get? tp = some ot) (hdt : ot.data = .seq pl m) (ho : s.heap.get? S = some o) (hd : o.data = .set es ep t) (hf : t.fits es.size = true) (hn : es.size = n)
  (hp : pl[i]? = some (rawInt p)) (he : es[p]? = some (h, x)) (hQ : ∀ h', SIt h' it S (.ref tp) (i + 1) n ep -> Heap.SameBut it s.heap h' -> Q (some x) { s with heap := h' }) : wpAny (model P w) A (pyNext (.ref it)) Q E s := by
 have hT : s.TypeIs (.ref it) "set_iterator" := ⟨_, hit, rfl⟩
 unfold pyNext
 refine wpAny_bind (wpAny_attempt (wpAny_callSpecial?_slot (name := Str.ofString "__next__") hT cb (wpAny_call_entry cb hT fc ?_ (fW _))))
 unfold Builtin.«set_iterator.__next__»
 refine wpAny_bind (wpAny_pure ?_)
 refine wpAny_bind (wpAny_fieldsOf hit rfl ?_)
 show wpAny _ _ (setEntries S >>= _) _ _ _
 refine wpAny_bind (wpAny_setEntries_of ho hd hf ?_)
 rw [if_neg (by rw [hn]; simp)]
 show wpAny _ _ (seqItems? (.ref tp) >>= _) _ _ _
 refine wpAny_bind (wpAny_seqItems htp hdt ?_)
 show wpAny _ _ (match pl[(i : Int).toNat]? with | some (.int place _) => _ | some _ => _ | none => _) _ _ _
 rw [Int.toNat_natCast, hp]
 show wpAny _ _ (setNextDrawn S ((p : Int).toNat) ((ep : Int).toNat) >>= _) _ _ _
 rw [Int.toNat_natCast, Int.toNat_natCast]
 refine wpAny_bind (sd ho hd hf he ?_)
 refine wpAny_bind (wpAny_setField_rec hit (by simp) fun h2 e2 s2 => ?_)
 refine wpAny_pure ⟨_, rfl, wpAny_pure (hQ h2 ?_ s2)⟩
 have e : ((i + 1 : Nat) : Int) = (i : Int) + 1 := by omega
 show h2.get? it = _
 rw [e]
 simpa [rawInt] using e2
theorem kX {Q : Option Value -> Shared -> Prop} (hh : A.handled = none) (hit : SIt s.heap it S (.ref tp) i n ep) (htp : s.heap.get? tp = some ot) (hdt : ot.data = .seq pl m) (ho : s.heap.get? S = some o) (hd : o.data = .set es ep t) (hf : t.fits es.size = true) (hn : es.size = n)
  (hp : pl[i]? = none) (hQ : ∀ h', (∀ b u, b ≠ it -> s.heap.get? b = some u -> h'.get? b = some u) -> Q none { s with heap := h' }) : wpAny (model P w) A (pyNext (.ref it)) Q E s := by
 have hT : s.TypeIs (.ref it) "set_iterator" := ⟨_, hit, rfl⟩
 unfold pyNext
 refine wpAny_bind (wpAny_attempt (wpAny_callSpecial?_slot (name := Str.ofString "__next__") hT cb (wpAny_call_entry cb hT fc ?_ (fW _))))
 unfold Builtin.«set_iterator.__next__»
 refine wpAny_bind (wpAny_pure ?_)
 refine wpAny_bind (wpAny_fieldsOf hit rfl ?_)
 show wpAny _ _ (setEntries S >>= _) _ _ _
 refine wpAny_bind (wpAny_setEntries_of ho hd hf ?_)
 rw [if_neg (by rw [hn]; simp)]
 show wpAny _ _ (seqItems? (.ref tp) >>= _) _ _ _
 refine wpAny_bind (wpAny_seqItems htp hdt ?_)
 show wpAny _ _ (match pl[(i : Int).toNat]? with | some (.int place _) => _ | some _ => _ | none => _) _ _ _
 rw [Int.toNat_natCast, hp]
 show wpAny _ _ (setField (.ref it) 0 (rawInt 0) >>= _) _ _ s
 refine wpAny_bind (wpAny_setField_rec hit (by simp) fun h2 e2 s2 => ?_)
 refine wpAny_bind (wpAny_setField e2 rfl (by simp) ?_)
 refine wpAny_mono (mj (P := P) (w := w) (A := A) (E := E) (s := s) (Q := Q) hh fun h' k => hQ h' fun b u hb e => k b u ?_) (fun _ _ z => z.elim) fun e s' z => ?_
 ·exact (Heap.SameBut.update ..).extBut b u hb (s2.extBut b u hb e)
 ·refine wpAny_bind (wpAny_mono z (fun b s2 ⟨e1, e2⟩ => ?_) fun _ _ y => y)
  subst e1
  exact wpAny_pure e2
theorem jI {slot g : Nat} {Q : Option (Value × Nat) -> Shared -> Prop} (hbt : w.params.followText "set-order" = true) (ho : s.heap.get? S = some o) (hd : o.data = .set es ep t) (hf : t.fits es.size = true)
  (q : Q (((pickOrder (w.params.setOrder S ep) es)[g]?).map fun e => (e.2, slot)) s) : wpAny (model P w) A (setNext S slot g ep) Q E s := by
 unfold setNext setWalk setsByText
 refine wpAny_bind (wpAny_setState_of ho hd hf ?_)
 dsimp only
 refine wpAny_bind (wpAny_bind (wpAny_askSetting (wpAny_pure ?_)))
 refine wpAny_ite_split (fun _ => ?_) (fun z => absurd hbt z)
 refine wpAny_ite_split (fun z => absurd z (by simp)) (fun _ => ?_)
 refine wpAny_bind (wpAny_bind (wpAny_setState_of ho hd hf ?_))
 dsimp only
 refine wpAny_bind (wpAny_bind (wpAny_askSetting (wpAny_pure ?_)))
 refine wpAny_ite_split (fun _ => ?_) (fun z => absurd hbt z)
 refine wpAny_bind (wpAny_askSetting (wpAny_pure ?_))
 exact wpAny_pure q
theorem na {slot g : Nat} {Q : Option (Value × Nat) -> Shared -> Prop} (hbt : w.params.followText "set-order" = false) (ho : s.heap.get? S = some o) (hd : o.data = .set es ep t) (hf : t.fits es.size = true) (hl : t.led = true) (h1 : es.size <= 1)
  (q : Q (match es[SetTable.below t.place slot]?, t.place[SetTable.below t.place slot]? with | some (_, x), some j => some (x, j + 1) | _, _ => none) s) : wpAny (model P w) A (setNext S slot g ep) Q E s := by
 unfold setNext setsByText
 refine wpAny_bind (wpAny_setState_of ho hd hf ?_)
 dsimp only
 refine wpAny_bind (wpAny_bind (wpAny_askSetting (wpAny_pure ?_)))
 refine wpAny_ite_split (fun z => absurd (hbt.symm.trans z) (fun y => nomatch y)) (fun _ => ?_)
 refine wpAny_ite_split (fun z => absurd z ?_) (fun _ => ?_)
 ·show ¬ ((!t.plain && decide (es.size > 1)) = true)
  rw [decide_eq_false (by omega), Bool.and_false]
  exact Bool.false_ne_true
 refine wpAny_bind ?_
 show wpAny _ _ (if (!t.led && !es.isEmpty) = true then _ else _) _ _ _
 rw [if_neg (by rw [hl]; simp)]
 refine wpAny_pure ?_
 exact wpAny_pure q
end
section
variable {P : Program} {w : World} {A : Around} {E : Value -> Shared -> Prop} {s : Shared} {S : Addr} {o : Obj} {es : Array (Int × Value)} {ep : Nat} {t : SetTable}
theorem rN {Q : Bool -> Shared -> Prop} (ho : s.heap.get? S = some o) (hd : o.data = .set es ep t) (hf : t.fits es.size = true) (q : Q (!w.params.followText "set-order" && (!t.plain && decide (es.size > 1))) s) : wpAny (model P w) A (setDrawn S) Q E s := by
 unfold setDrawn setsByText
 refine wpAny_bind (wpAny_setState_of ho hd hf ?_)
 dsimp only
 refine wpAny_bind (wpAny_bind (wpAny_askSetting (wpAny_pure ?_)))
 exact wpAny_pure q
theorem sQ {Q : Value -> Shared -> Prop} (ho : s.heap.get? S = some o) (hex : o.ExactSet) (hd : o.data = .set es ep t) (hf : t.fits es.size = true) (hz : es.size <= 1000)
  (q0 : (!w.params.followText "set-order" && (!t.plain && decide (es.size > 1))) = false -> Q (.ref s.heap.objs.size) { s with heap := s.heap.push { cls := .type "set_iterator", data := .fields #[rawInt 0, .int 0 0, .ref S, .int es.size 0, .int ep 0] } })
  (q1 : (!w.params.followText "set-order" && (!t.plain && decide (es.size > 1))) = true -> ∀ (ys : List Nat) (d : Drawn), ys.Perm (List.range es.size) -> Q (.ref (s.heap.objs.size + 1)) { s with heap := (s.heap.push { cls := .type "tuple", data := .seq (ys.map fun (i : Nat) => rawInt i).toArray }).push { cls := .type "set_iterator", data := .fields #[.ref s.heap.objs.size, .int 0 0, .ref S, .int es.size 0, .int ep 0] }, drawn := d }) :
  wpAny (model P w) A (pyIter (.ref S)) Q E s := by
 have hT : s.TypeIs (.ref S) "set" := ⟨o, ho, hex.1⟩
 refine wpAny_pyIter_slot hT PySem.F.slot_set_iter (wpAny_call_entry PySem.F.slot_set_iter hT jp ?_ (PySem.F.args_set_iter_1 _))
 unfold Builtin.«frozenset.__iter__» Builtin.Frozenset.slot0 slotArgs
 simp only [List.isEmpty_nil, Bool.not_true, Bool.false_eq_true, ↓reduceIte, bind_assoc, List.length_nil, bne_self_eq_false]
 unfold Builtin.Frozenset.addrOf Builtin.Frozenset.sizeOf
 refine wpAny_bind (wpAny_pure ?_)
 try dsimp only
 refine wpAny_bind (wpAny_pure ?_)
 refine wpAny_bind (wpAny_bind (wpAny_setEntries_of ho hd hf (wpAny_pure ?_)))
 refine wpAny_bind (rN ho hd hf ?_)
 cases hb : (!w.params.followText "set-order" && (!t.plain && decide (es.size > 1))) with
 | false =>
  simp only [Bool.false_eq_true, if_false]
  refine wpAny_bind (wpAny_pure ?_)
  refine wpAny_bind (wpAny_setEpoch_of ho hd hf ?_)
  refine wpAny_bind (wpAny_newObj_type (wpAny_pure ⟨_, rfl, "set_iterator", _, ⟨_, Heap.get?_push_size _ rfl, rfl⟩, cb.lookup, ?_⟩) ?_)
  ·exact q0 hb
  ·simp only [sizeOk, List.size_toArray, List.length_cons, List.length_nil, sizeLine_eq]; omega
 | true =>
  simp only [if_true]
  refine wpAny_bind (nz es.size (List.range es.size) _ List.length_range fun ys d hp => ?_)
  have hl : ys.length <= 1000 := by rw [hp.length_eq]; simpa using hz
  refine wpAny_bind (wpAny_newTuple ?_ (by rw [List.length_map, sizeLine_eq]; omega))
  have ho' : (s.heap.push { cls := .type "tuple", data := .seq (ys.map fun (i : Nat) => rawInt i).toArray }).get? S = some o := Heap.get?_push_of_some _ ho
  refine wpAny_bind (wpAny_setEpoch_of ho' hd hf ?_)
  refine wpAny_bind (wpAny_newObj_type (wpAny_pure ⟨_, rfl, "set_iterator", _, ⟨_, Heap.get?_push_size _ rfl, rfl⟩, cb.lookup, ?_⟩) ?_)
  ·have := q1 hb ys d hp
   rw [Heap.size_push]
   exact this
  ·simp only [sizeOk, List.size_toArray, List.length_cons, List.length_nil, sizeLine_eq]; omega
end
structure Wk (P : Program) (w : World) (it : Addr) (fp : List Addr) (vs : List Value) (St : Nat -> Heap -> Prop) : Prop where
 keep : ∀ i h h', St i h -> (∀ b ∈ fp, ∀ u, h.get? b = some u -> h'.get? b = some u) -> St i h'
 item : ∀ (i : Nat) (s : Shared) (A : Around) (Q : Option Value -> Shared -> Prop) (E : Value -> Shared -> Prop) (x : Value), St i s.heap -> vs[i]? = some x ->
  (∀ h', St (i + 1) h' -> (∀ b u, b ≠ it -> s.heap.get? b = some u -> h'.get? b = some u) -> Q (some x) { s with heap := h' }) -> wpAny (model P w) A (pyNext (.ref it)) Q E s
 done : ∀ (s : Shared) (A : Around) (Q : Option Value -> Shared -> Prop) (E : Value -> Shared -> Prop), A.handled = none -> St vs.length s.heap ->
  (∀ h', (∀ b u, b ≠ it -> s.heap.get? b = some u -> h'.get? b = some u) -> Q none { s with heap := h' }) -> wpAny (model P w) A (pyNext (.ref it)) Q E s
section
variable {P : Program} {w : World} {it S tp : Addr} {o ot : Obj} {es : Array (Int × Value)} {ep m : Nat} {t : SetTable}
theorem uP (hbt : w.params.followText "set-order" = true) (hd : o.data = .set es ep t) (hf : t.fits es.size = true) (hne : S ≠ it) :
  Wk P w it [it, S] ((pickOrder (w.params.setOrder S ep) es).toList.map (·.2)) (fun i h => SIt h it S (rawInt 0) i es.size ep /\ h.get? S = some o) where
 keep := fun i h h' st k => ⟨k it (by simp) _ st.1, k S (by simp) _ st.2⟩
 item := fun i s A Q E x st hx hQ => by
  have hx' : ((pickOrder (w.params.setOrder S ep) es)[i]?).map (fun e => (e.2, 0)) = some (x, 0) := by
   rw [List.getElem?_map, Array.getElem?_toList] at hx
   cases e : (pickOrder (w.params.setOrder S ep) es)[i]? with
   | none => rw [e] at hx; cases hx
   | some y => rw [e] at hx; have := Option.some.inj hx; rw [<- this]; rfl
  exact mV (slot' := 0) st.1 st.2 hd hf rfl (fun A E Q' q => jI hbt st.2 hd hf (by rw [hx']; exact q)) fun h' hit' sb => hQ h' ⟨hit', (sb.2 S hne).trans st.2⟩ fun b u hb e => (sb.2 b hb).trans e
 done := fun s A Q E hh st hQ => by
  refine gn hh st.1 st.2 hd hf rfl (fun A E Q' q => jI hbt st.2 hd hf ?_) hQ
  have e : (pickOrder (w.params.setOrder S ep) es)[((pickOrder (w.params.setOrder S ep) es).toList.map (·.2)).length]? = none := by
   rw [List.length_map, Array.length_toList]
   exact Array.getElem?_eq_none (Nat.le_refl _)
  rw [e]; exact q
theorem lI {α : Type} {a : Array α} (h : a.size = 1) : ∃ x, a = #[x] := by
 cases a with
 | mk l => match l, h with | [x], _ => exact ⟨x, rfl⟩
theorem jT (j k : Nat) : SetTable.below #[j] k = if j < k then 1 else 0 := by
 unfold SetTable.below
 show SetTable.below.go #[j] k 1 0 1 = _
 unfold SetTable.below.go
 rw [if_pos (by decide)]
 show (if j < k then SetTable.below.go #[j] k 0 1 1 else SetTable.below.go #[j] k 0 0 0) = _
 split
 ·rfl
 ·rfl
theorem wl (hbt : w.params.followText "set-order" = false) (hd : o.data = .set es ep t) (hf : t.fits es.size = true) (hl : t.led = true) (h1 : es.size <= 1) (hne : S ≠ it) :
  Wk P w it [it, S] (es.toList.map (·.2)) (fun i h => SIt h it S (rawInt ((if i = 0 then 0 else t.place.getD 0 0 + 1 : Nat))) i es.size ep /\ h.get? S = some o) where
 keep := fun i h h' st k => ⟨k it (by simp) _ st.1, k S (by simp) _ st.2⟩
 item := fun i s A Q E x st hx hQ => by
  have hi : i < es.size := by have := (List.getElem?_eq_some_iff.mp hx).1; simpa using this
  have i0 : i = 0 := by omega
  subst i0
  have n1 : es.size = 1 := by omega
  have ps : t.place.size = 1 := by
   have := hf
   simp only [SetTable.fits, Bool.and_eq_true, beq_iff_eq] at this
   rw [this.1, n1]
  obtain ⟨j, hj⟩ := lI ps
  obtain ⟨y, hy⟩ := lI n1
  have ex : y.2 = x := by
   rw [hy] at hx
   simpa using hx
  refine mV (slot := 0) (slot' := j + 1) st.1 st.2 hd hf rfl (fun A E Q' q => na hbt st.2 hd hf hl h1 ?_) fun h' hit' sb => hQ h' ⟨?_, (sb.2 S hne).trans st.2⟩ fun b u hb e => (sb.2 b hb).trans e
  ·have b0 : SetTable.below t.place 0 = 0 := by rw [hj, jT, if_neg (Nat.not_lt_zero _)]
   rw [b0, hj, hy]
   show Q' (some (y.2, j + 1)) s
   rw [ex]; exact q
  ·have e : t.place.getD 0 0 = j := by rw [hj]; rfl
   show SIt h' it S (rawInt ((if (0 + 1 : Nat) = 0 then 0 else t.place.getD 0 0 + 1 : Nat))) (0 + 1) es.size ep
   rw [if_neg (by decide), e]
   exact hit'
 done := fun s A Q E hh st hQ => by
  refine gn hh st.1 st.2 hd hf rfl (fun A E Q' q => na hbt st.2 hd hf hl h1 ?_) hQ
  have ps : t.place.size = es.size := by
   have := hf
   simp only [SetTable.fits, Bool.and_eq_true, beq_iff_eq] at this
   exact this.1
  have e : es[SetTable.below t.place (if (es.toList.map (·.2)).length = 0 then 0 else t.place.getD 0 0 + 1)]? = none := by
   rw [List.length_map, Array.length_toList]
   by_cases z : es.size = 0
   ·exact Array.getElem?_eq_none (by omega)
   ·have n1 : es.size = 1 := by omega
    rw [n1] at ps
    obtain ⟨j, hj⟩ := lI ps
    rw [if_neg z, hj]
    have e2 : (#[j] : Array Nat).getD 0 0 = j := rfl
    rw [e2, jT, if_pos (Nat.lt_succ_self _)]
    exact Array.getElem?_eq_none (by omega)
  rw [e]; exact q
theorem ua {ys : List Nat} (hp : ys.Perm (List.range es.size)) (hdt : ot.data = .seq (ys.map fun (i : Nat) => rawInt i).toArray m) (hd : o.data = .set es ep t) (hf : t.fits es.size = true) (hne : S ≠ it) (hte : tp ≠ it) :
  Wk P w it [it, S, tp] (ys.map fun p => (es.getD p (0, Value.none)).2) (fun i h => SIt h it S (.ref tp) i es.size ep /\ h.get? S = some o /\ h.get? tp = some ot) where
 keep := fun i h h' st k => ⟨k it (by simp) _ st.1, k S (by simp) _ st.2.1, k tp (by simp) _ st.2.2⟩
 item := fun i s A Q E x st hx hQ => by
  rw [List.getElem?_map] at hx
  cases e : ys[i]? with
  | none => rw [e] at hx; cases hx
  | some p =>
   rw [e] at hx
   have hx' : (es.getD p (0, Value.none)).2 = x := Option.some.inj hx
   have hlt : p < es.size := List.mem_range.mp (hp.mem_iff.mp (List.mem_of_getElem? e))
   have he : es[p]? = some ((es.getD p (0, Value.none)).1, x) := by
    rw [<- hx']
    simp [Array.getD, hlt]
   refine sU st.1 st.2.2 hdt st.2.1 hd hf rfl (p := p) ?_ he fun h' hit' sb => hQ h' ⟨hit', (sb.2 S hne).trans st.2.1, (sb.2 tp hte).trans st.2.2⟩ fun b u hb e => (sb.2 b hb).trans e
   rw [List.getElem?_toArray, List.getElem?_map, e]; rfl
 done := fun s A Q E hh st hQ => by
  refine kX hh st.1 st.2.2 hdt st.2.1 hd hf rfl ?_ hQ
  rw [List.getElem?_toArray]
  exact List.getElem?_eq_none (by simp)
end
section
variable {P : Program} {w : World} {A : Around} {E : Value -> Shared -> Prop} {s : Shared} {S : Addr} {xs : List Str}
theorem fN : ∀ {l : List (Int × Value)}, ElemsOf (PySem.strKind P w) l -> aU ((l.map dF).map V.str) (l.map (·.2))
 | [], _ => .nil
 | e :: l, h => by
  obtain ⟨⟨k, hk, _⟩, _⟩ := h.head
  obtain ⟨tk, ht⟩ := Value.isStrOf_shape hk
  refine .cons ?_ (fN h.tail)
  show ∃ t, e.2 = Value.str (dF e) t
  exact ⟨tk, by rw [gt hk]; exact ht⟩
theorem qg {Q : Value -> Shared -> Prop} (hS : db P w s.heap S xs) (hx : xs.length <= 1000)
  (q : ∀ (h' : Heap) (d : Drawn) (it : Addr) (fp : List Addr) (vs : List Value) (os : List Str) (St : Nat -> Heap -> Prop), (∀ b u, s.heap.get? b = some u -> h'.get? b = some u) -> Wk P w it fp vs St -> St 0 h' -> (∀ b ∈ fp, b = S \/ s.heap.objs.size <= b) -> s.heap.objs.size <= it -> aU (os.map V.str) vs -> os.Perm xs -> Q (.ref it) { s with heap := h', drawn := d }) :
  wpAny (model P w) A (pyIter (.ref S)) Q E s := by
 obtain ⟨o, es, ep, t, ho, hex, hd, hel, hb, hf, hl, hpl, hp⟩ := hS
 have sz : es.size = xs.length := by rw [<- hp.length_eq, List.length_map, Array.length_toList]
 have hlt : S < s.heap.objs.size := Heap.lt_size ho
 refine sQ ho hex hd hf (by omega) (fun hb0 => ?_) (fun hb1 ys d hys => ?_)
 ·have e0 : s = { s with drawn := s.drawn } := by cases s; rfl
  have ne : S ≠ s.heap.objs.size := Nat.ne_of_lt hlt
  have go := q (s.heap.push { cls := .type "set_iterator", data := .fields #[rawInt 0, .int 0 0, .ref S, .int es.size 0, .int ep 0] }) s.drawn s.heap.objs.size [s.heap.objs.size, S]
  have fpo : ∀ b ∈ [s.heap.objs.size, S], b = S \/ s.heap.objs.size <= b := fun b hb => by
   rcases List.mem_cons.mp hb with rfl | hb
   ·exact .inr (Nat.le_refl _)
   ·exact .inl (List.mem_singleton.mp hb)
  cases hbt : w.params.followText "set-order" with
  | true =>
   have pm := oz (w.params.setOrder S ep) es
   exact go _ ((pickOrder (w.params.setOrder S ep) es).toList.map dF) _ (fun b u e => Heap.get?_push_of_some _ e) (uP hbt hd hf ne) ⟨Heap.get?_push_size _ rfl, Heap.get?_push_of_some _ ho⟩ fpo (Nat.le_refl _) (fN (hel.perm pm)) ((pm.map _).trans hp)
  | false =>
   have h1 : es.size <= 1 := by
    rw [hbt] at hb0
    by_cases z : es.size > 1
    ·rw [decide_eq_true z] at hb0
     cases pz : t.plain with
     | true => have := hpl pz; omega
     | false => rw [pz] at hb0; cases hb0
    ·omega
   exact go _ (es.toList.map dF) _ (fun b u e => Heap.get?_push_of_some _ e) (wl hbt hd hf (by rw [hl, hbt]; rfl) h1 ne) ⟨Heap.get?_push_size _ rfl, Heap.get?_push_of_some _ ho⟩ fpo (Nat.le_refl _) (fN hel) hp
 ·have hsz : (s.heap.push { cls := .type "tuple", data := .seq (ys.map fun (i : Nat) => rawInt i).toArray }).objs.size = s.heap.objs.size + 1 := Heap.size_push ..
  have ne : S ≠ s.heap.objs.size + 1 := Nat.ne_of_lt (Nat.lt_succ_of_lt hlt)
  have ne2 : s.heap.objs.size ≠ s.heap.objs.size + 1 := Nat.ne_of_lt (Nat.lt_succ_self _)
  have itAt : ((s.heap.push { cls := .type "tuple", data := .seq (ys.map fun (i : Nat) => rawInt i).toArray }).push { cls := .type "set_iterator", data := .fields #[.ref s.heap.objs.size, .int 0 0, .ref S, .int es.size 0, .int ep 0] }).get? (s.heap.objs.size + 1) = some { cls := .type "set_iterator", dict := none, data := .fields #[.ref s.heap.objs.size, .int 0 0, .ref S, .int es.size 0, .int ep 0], slots := #[] } := by
   rw [<- hsz]; exact Heap.get?_push_size _ rfl
  have perm2 : (ys.map fun p => es.getD p (0, Value.none)).Perm es.toList := by
   refine (hys.map _).trans ?_
   have e : (List.range es.size).map (fun p => es.getD p (0, Value.none)) = es.toList := by
    apply List.ext_getElem
    ·simp
    ·intro i h1 h2
     have hi : i < es.size := by simpa using h1
     simp [Array.getD, hi]
   rw [e]
  have vs := fN (hel.perm perm2)
  rw [List.map_map (g := fun x : Int × Value => x.2)] at vs
  refine q _ d (s.heap.objs.size + 1) [s.heap.objs.size + 1, S, s.heap.objs.size] _ ((ys.map fun p => es.getD p (0, Value.none)).map dF) _ (fun b u e => Heap.get?_push_of_some _ (Heap.get?_push_of_some _ e)) (ua (tp := s.heap.objs.size) (m := 0) (ot := { cls := .type "tuple", data := .seq (ys.map fun (i : Nat) => rawInt i).toArray }) hys rfl hd hf ne ne2)
   ⟨itAt, Heap.get?_push_of_some _ (Heap.get?_push_of_some _ ho), Heap.get?_push_of_some _ (Heap.get?_push_size _ rfl)⟩ (fun b hb => ?_) (Nat.le_succ _) vs ((perm2.map _).trans hp)
  simp only [List.mem_cons, List.not_mem_nil, or_false] at hb
  rcases hb with rfl | rfl | rfl
  ·exact .inr (Nat.le_succ _)
  ·exact .inl rfl
  ·exact .inr (Nat.le_refl _)
variable {R : Result -> Shared -> Prop} {it L : Addr} {fp : List Addr} {vs : List Value} {St : Nat -> Heap -> Prop}
theorem sw (W : Wk P w it fp vs St) (hh : A.handled = none) (hL : L ∉ fp) (hLi : L ≠ it) (hn : vs.length <= 1000) (res : Value) {h₁ : Heap}
  (hR : ∀ h' tk c acc, (∀ b u, b ≠ L -> b ≠ it -> h₁.get? b = some u -> h'.get? b = some u) -> h'.get? L = some { cls := .type "list", dict := none, data := .seq acc c, slots := #[] } -> acc.toList = vs -> R (.ok (.ret res)) { s with heap := h', toks := tk }) :
  ∀ (k i : Nat) (h : Heap) (tk c : Nat) (acc : Array Value), vs.length - i = k -> i <= vs.length -> St i h -> (∀ b u, b ≠ L -> b ≠ it -> h₁.get? b = some u -> h.get? b = some u) -> h.get? L = some { cls := .type "list", dict := none, data := .seq acc c, slots := #[] } -> acc.toList = vs.take i ->
   codeAny (model P w) A (.builtin "list.extend.loop" ⟨[.ref L, .ref it, res], []⟩) R { s with heap := h, toks := tk } := by
 intro k
 induction k with
 | zero =>
  intro i h tk c acc hk hi st kp hl ha
  obtain rfl : i = vs.length := by omega
  refine codeAny_builtin PySem.F.entry_extend_loop ?_
  rw [Around.under_plainId PySem.F.plain_extend_loop _]
  show wpAny _ A.in1 (pyNext (.ref it) >>= _) _ _ _
  refine wpAny_bind (W.done { s with heap := h, toks := tk } A.in1 _ _ hh st fun h' k' => ?_)
  exact wpAny_pure (hR h' tk c acc (fun b u h1 h2 e => k' b u h2 (kp b u h1 h2 e)) (k' L _ hLi hl) (by rw [ha, List.take_length]))
 | succ k ih =>
  intro i h tk c acc hk hi st kp hl ha
  have hlt : i < vs.length := by omega
  have hsz : acc.size = i := by rw [<- Array.length_toList, ha, List.length_take]; omega
  refine codeAny_builtin PySem.F.entry_extend_loop ?_
  rw [Around.under_plainId PySem.F.plain_extend_loop _]
  show wpAny _ A.in1 (pyNext (.ref it) >>= _) _ _ _
  refine wpAny_bind (W.item i { s with heap := h, toks := tk } A.in1 _ _ vs[i] st (List.getElem?_eq_getElem hlt) fun h' st' k' => ?_)
  dsimp only at k' ⊢
  have hl' := k' L _ hLi hl
  have up : ∀ b u, b ≠ L -> h'.get? b = some u -> (h'.update L (Obj.mapSeq (·.push vs[i]))).get? b = some u := fun b u hb e => (Heap.get?_update_other _ _ (Ne.symm hb)).trans e
  show wpAny _ A.in1 (updateSeq L (·.push vs[i]) >>= _) _ _ _
  refine wpAny_bind ?_
  refine wpAny_updateSeq hl' rfl (wpAny_pure ⟨plainId_quiet PySem.F.plain_extend_loop _, ih (i + 1) _ tk _ (acc.push vs[i]) (by omega) hlt (W.keep _ _ _ st' fun b hb u e => up b u (fun z => hL (z ▸ hb)) e) (fun b u h1 h2 e => up b u h1 (k' b u h2 (kp b u h1 h2 e))) (Heap.get?_update_self _ hl' rfl) ?_⟩) (by rw [hsz, sizeLine_eq]; omega) (by show (acc.push vs[i]).size <= sizeLine + 1; rw [Array.size_push, hsz, sizeLine_eq]; omega)
  rw [Array.toList_push, ha, List.take_add_one, List.getElem?_eq_getElem hlt]; rfl
theorem si (hT : s.TypeIs (.ref S) "set") {Q : Bool -> Shared -> Prop} (h : Q false s) : wpAny (model P w) A (Builtin.List.listLengthHint (.ref S)) Q E s := by
 unfold Builtin.List.listLengthHint
 refine wpAny_bind (wpAny_specialOf hT PySem.F.slot_set_len.lookup ?_)
 generalize hid : ("set.__len__" : String) = id0
 wp_delta
 rw [show splitId id0 = some ("set", "__len__") from by subst hid; decide +kernel]
 subst hid
 refine wpAny_bind (wpAny_isInstance (T := "set") (b := true) hT (by rw [isSubtype_type]; kernel_rfl) ?_)
 refine wpAny_ite_split (fun hab => absurd hab (by decide)) (fun _ => ?_)
 refine wpAny_ite_split (fun _ => ?_) (fun hab => absurd (by decide +kernel) hab)
 refine wpAny_bind (wpAny_typeOf hT ?_)
 exact wpAny_pure h
end
section
variable {P : Program} {w : World} {A : Around} {E : Value -> Shared -> Prop} {s : Shared} {S : Addr} {xs : List Str}
theorem uN {R : Result -> Shared -> Prop} (hh : A.handled = none) (hS : db P w s.heap S xs) (hx : xs.length <= 1000) (L : Addr) (hLS : L ≠ S) (res : Value) (hL : s.heap.get? L = some { cls := .type "list", data := .seq #[] })
  (hR : ∀ (h' : Heap) (d : Drawn) (tk c : Nat) (acc : Array Value) (os : List Str), (∀ b u, b ≠ L -> s.heap.get? b = some u -> h'.get? b = some u) -> h'.get? L = some { cls := .type "list", dict := none, data := .seq acc c, slots := #[] } -> aU (os.map V.str) acc.toList -> os.Perm xs -> R (.ok (.ret res)) { s with heap := h', toks := tk, drawn := d }) :
  wpAny (model P w) A.in1 (Builtin.List.listExtendWith (.ref L) (.ref S) res) (fun fin s' => match fin with | .done f => R (.ok f) s' | .again c' => c'.quiet = true /\ codeAny (model P w) A c' R s') (fun e s' => R (.error e) s') s := by
 have hT : s.TypeIs (.ref S) "set" := let ⟨o, _, _, _, ho, hex, _⟩ := hS; ⟨o, ho, hex.1⟩
 have lL : L < s.heap.objs.size := Heap.lt_size hL
 unfold Builtin.List.listExtendWith
 refine wpAny_bind (wpAny_typeOf (T := "set") hT ?_)
 have h1 : Builtin.List.listSameRef (.ref L) (.ref S) = false := by simp [Builtin.List.listSameRef, hLS]
 have h2 : (Value.type "set" == Value.type "list") = false := by decide
 have h3 : (Value.type "set" == Value.type "tuple") = false := by decide
 simp only [h1, h2, h3, Bool.or_false, Bool.false_eq_true, if_false]
 refine wpAny_bind (qg hS hx fun h1 d it fp vs os St k1 W st hfp hit rv hp => ?_)
 have hLf : L ∉ fp := fun z => by
  rcases hfp L z with e | e
  ·exact hLS e
  ·exact absurd lL (Nat.not_lt.mpr e)
 have hLi : L ≠ it := fun z => absurd lL (Nat.not_lt.mpr (z ▸ hit))
 have hvs : vs.length <= 1000 := by
  have := rv.length
  rw [List.length_map] at this
  rw [<- this, hp.length_eq]; exact hx
 have key : ∀ (h : Heap) (c tk : Nat), (∀ b u, b ≠ L -> h1.get? b = some u -> h.get? b = some u) -> h.get? L = some { cls := .type "list", data := .seq #[] c } -> codeAny (model P w) A (.builtin "list.extend.loop" ⟨[.ref L, .ref it, res], []⟩) R { s with heap := h, toks := tk, drawn := d } := by
  intro h c tk hk hL1
  refine sw (s := { s with drawn := d }) W hh hLf hLi hvs res (h₁ := s.heap) (fun h' tk' c' acc k' hl' ha => ?_) vs.length 0 h tk c #[] (Nat.sub_zero _) (Nat.zero_le _) (W.keep _ _ _ st fun b hb u e => hk b u (fun z => hLf (z ▸ hb)) e) (fun b u hb _ e => hk b u hb (k1 b u e)) hL1 rfl
  refine hR h' d tk' c' acc os (fun b u hb e => k' b u hb (fun z => absurd (Heap.lt_size e) (Nat.not_lt.mpr (z ▸ hit))) e) hl' (by rw [ha]; exact rv) hp
 have hL1 := k1 L _ hL
 have hT1 : Shared.TypeIs { s with heap := h1, drawn := d } (.ref S) "set" := let ⟨o, ho, hc⟩ := hT; ⟨o, k1 S o ho, hc⟩
 refine wpAny_bind (wpAny_holding (si hT1 ?_))
 refine wpAny_ite_split (fun _ => ?_) (fun _ => wpAny_pure ⟨plainId_quiet PySem.F.plain_extend_loop _, key _ _ _ (fun b u _ e => e) hL1⟩)
 refine wpAny_bind (wpAny_rule ?_)
 refine wpAny_bind ?_
 show wpAny _ _ (updateSeq L (·.push .none) >>= fun _ => updateSeq L (·.pop)) _ _ _
 refine wpAny_bind (wpAny_updateSeq hL1 rfl ?_)
 have hL2 := Heap.get?_update_self (Obj.mapSeq (·.push Value.none)) hL1 rfl
 refine wpAny_updateSeq (hz := by seq_fits) hL2 rfl ?_
 have hL3 := Heap.get?_update_self (Obj.mapSeq (·.pop)) hL2 rfl
 refine wpAny_pure ⟨plainId_quiet PySem.F.plain_extend_loop _, key _ _ _ (fun b u hb e => ?_) hL3⟩
 exact (Heap.get?_update_other _ _ (Ne.symm hb)).trans ((Heap.get?_update_other _ _ (Ne.symm hb)).trans e)
theorem nA {R : List Value -> Shared -> Prop} (hh : A.handled = none) (hS : db P w s.heap S xs) (hx : xs.length <= 1000)
  (h : ∀ (h' : Heap) (d : Drawn) (tk : Nat) (vs : List Value) (os : List Str), (∀ b u, s.heap.get? b = some u -> h'.get? b = some u) -> aU (os.map V.str) vs -> os.Perm xs -> R vs { s with heap := h', toks := tk, drawn := d }) :
  wpAny (model P w) A (collect (.ref S)) R E s := by
 have hlt : S < s.heap.objs.size := let ⟨o, _, _, _, ho, _⟩ := hS; Heap.lt_size ho
 unfold collect
 refine wpAny_bind (wpAny_runValue (codeAny_builtin entry_proto_collect' ?_))
 rw [Around.under_plainId PySem.F.plain_proto_collect _]
 show wpAny _ A.in1 (newList [] >>= fun l => again (.builtin "list.__iadd__" ⟨[l, .ref S], []⟩)) _ _ s
 refine wpAny_bind (wpAny_newObj_type ?_)
 refine wpAny_pure ⟨plainId_quiet PySem.F.plain_list_iadd _, codeAny_builtin entry_list_iadd' ?_⟩
 rw [Around.under_plainId PySem.F.plain_list_iadd _]
 have hL1 : (s.heap.push { cls := .type "list", data := .seq ([] : List Value).toArray }).get? s.heap.objs.size = some { cls := .type "list", data := .seq #[] } := Heap.get?_push_size _ rfl
 show wpAny _ A.in1 (Builtin.List.listExtendWith (.ref s.heap.objs.size) (.ref S) (.ref s.heap.objs.size)) _ _ _
 have key := uN (A := A) (s := { s with heap := s.heap.push { cls := .type "list", data := .seq ([] : List Value).toArray } })
  (R := fun (q : Result) (s' : Shared) => ∃ (h' : Heap) (d : Drawn) (tk c : Nat) (acc : Array Value) (os : List Str), q = .ok (.ret (.ref s.heap.objs.size)) /\ s' = { s with heap := h', toks := tk, drawn := d } /\ (∀ b u, s.heap.get? b = some u -> h'.get? b = some u) /\ h'.get? s.heap.objs.size = some { cls := .type "list", dict := none, data := .seq acc c, slots := #[] } /\ aU (os.map V.str) acc.toList /\ os.Perm xs)
  hh (hS.at' fun o e => Heap.get?_push_of_some _ e) hx s.heap.objs.size (Nat.ne_of_gt hlt) (.ref s.heap.objs.size) hL1
  (fun h' d tk c acc os k hl rv hp => ⟨h', d, tk, c, acc, os, rfl, rfl, fun b u e => k b u (Nat.ne_of_lt (Heap.lt_size e)) (Heap.get?_push_of_some _ e), hl, rv, hp⟩)
 refine wpAny_mono key (fun fin s' x => ?_) fun e s' x => ?_
 ·cases fin with
  | done f =>
   obtain ⟨h', d, tk, c, acc, os, e, rfl, k, hl, rv, hp⟩ := x
   cases e
   show wpAny _ A (load s.heap.objs.size >>= _) _ _ _
   refine wpAny_bind (wpAny_load hl ?_)
   exact wpAny_pure (h h' d tk acc.toList os k rv hp)
  | again c₁ =>
   refine ⟨x.1, codeAny_mono x.2 fun q s₂ y => ?_⟩
   obtain ⟨h', d, tk, c, acc, os, rfl, rfl, k, hl, rv, hp⟩ := y
   show wpAny _ A (load s.heap.objs.size >>= _) _ _ _
   refine wpAny_bind (wpAny_load hl ?_)
   exact wpAny_pure (h h' d tk acc.toList os k rv hp)
 ·obtain ⟨_, _, _, _, _, _, e', _⟩ := x
  cases e'
end
def vf (a b : Str) : Prop := a.cps.toList < b.cps.toList
section
variable {X : Cx} {pins : List (Addr × Obj)} {σ : St} {H : Hp} {s : Shared}
theorem iw {ps : List Str} {its : List Value} (rv : aU (ps.map V.str) its) (i : Nat) (hi : i < ps.length) : ∃ t, its.getD i .none = Value.str (ps.getD i default) t := by
 obtain ⟨u, hu, ru⟩ := aU.get (i := i) (x := V.str ps[i]) rv (by rw [List.getElem?_map, List.getElem?_eq_getElem hi]; rfl)
 obtain ⟨t, rfl⟩ := (show ∃ t, u = Value.str ps[i] t from ru)
 exact ⟨t, by simp [List.getD, hu, hi]⟩
theorem qC {A : Around} {E : Value -> Shared -> Prop} {l : Addr} {ps : List Str} {Q : Value -> Shared -> Prop} (I : Inv X pins σ H s) (hq : H l = some (.lst (ps.map V.str))) (nd : ps.Nodup) (h64 : ps.length < 64)
  (q : ∀ (qs : List Str) (h' : Heap), qs.Perm ps -> qs.Pairwise vf -> Inv X pins σ (upd H l (.lst (qs.map V.str))) { s with heap := h' } -> Q .none { s with heap := h' }) : wpAny (model X.prog X.w) A (call (.builtin "list.sort") [.ref l]) Q E s := by
 obtain ⟨hz, its, n, rv, at0⟩ := (show bg X.prog X.w H s.heap l (.lst (ps.map V.str)) from I.hok l _ hq)
 have li : its.length = ps.length := by have := rv.length; rw [List.length_map] at this; exact this.symm
 obtain ⟨m, hm, _⟩ := I.loc
 have nL : l ≠ X.env.locals := fun z => by rw [z, I.free] at hq; cases hq
 by_cases few : ps.length < 2
 ·refine wpAny_call_entry slot_list_sort ⟨_, at0, rfl⟩ entry_list_sort (dy at0 (by omega) fun hp ep k2 e2 => ⟨_, rfl, ?_⟩) (args_list_sort _)
  refine q ps hp (List.Perm.refl _) ?_ (I.setList hm hq rv hz (hm.at' fun o e => k2 _ o (Ne.symm nL) e) (fun b o _ hb z => k2 b o hb z) e2)
  match ps, few with
  | [], _ => exact .nil
  | [p], _ => exact List.pairwise_singleton _ _
 ·have F0 : Fr (Att.noObjs s.heap) X.env.locals s.heap m := Att.fr_all hm
  generalize hN : (cJ (Att.noObjs s.heap) s.heap X.env.locals).filter (fun p => decide (p.1 ≠ l)) = nw
  have N0 : News (Att.noObjs s.heap) X.env.locals s.heap nw := fun p hp => by rw [<- hN] at hp; exact iG p (List.mem_filter.mp hp).1
  have nl0 : ∀ p ∈ nw, p.1 ≠ l := fun p hp => by rw [<- hN] at hp; exact of_decide_eq_true (List.mem_filter.mp hp).2
  refine wpAny_call_entry slot_list_sort ⟨_, at0, rfl⟩ entry_list_sort (kat_list_sort F0 N0 at0 nL (Att.noObjs_get _ _) nl0 (by omega) (by omega) fun e1 h' F' N' => ?_) (args_list_sort _)
  have keep : ∀ (g : Heap) (x : Obj), News (Att.noObjs s.heap) X.env.locals g ((l, x) :: nw) -> ∀ b o, b ≠ X.env.locals -> b ≠ l -> s.heap.get? b = some o -> g.get? b = some o := fun g x N b o hb hl e =>
   (N (b, o) (List.mem_cons_of_mem _ (by rw [<- hN]; exact List.mem_filter.mpr ⟨dj hb (Att.noObjs_get _ _) e, decide_eq_true hl⟩))).1
  have kk : keyKind' its.toArray = pure oneType' := by
   have st := pK rv
   match its, li, st with
   | v1 :: v2 :: r, _, st => exact keyKind_strs st
   | [_], li, _ => simp at li; omega
   | [], li, _ => simp at li; omega
  rw [kk]
  refine wpAny_pure ?_
  rw [li]
  have unlike : ∀ i j, i < ps.length -> j < ps.length -> i ≠ j -> ps.getD i default ≠ ps.getD j default := fun i j hi hj hij e => by
   have ei : ps.getD i default = ps[i] := by simp [List.getD, hi]
   have ej : ps.getD j default = ps[j] := by simp [List.getD, hj]
   rw [ei, ej] at e
   exact hij ((List.getElem_inj nd).mp e)
  have O : Ord (kas_ask X.prog X.w A.in1 oneType' its) (fun i j => decide ((ps.getD i default).cps.toList < (ps.getD j default).cps.toList)) ps.length { s with heap := h' } := by
   refine ⟨fun i j C hi hj hij hC => ?_, fun i j k h1 h2 => ?_, fun i j hi hj hij h1 => ?_, fun i j h1 => ?_⟩
   ·show wpAny _ _ (keyLt' _ _ _) C _ _
    obtain ⟨t1, e1⟩ := iw rv i hi
    obtain ⟨t2, e2⟩ := iw rv j hj
    rw [e1, e2]
    exact kas_lt_str hC
   ·exact decide_eq_true (List.lt_trans (of_decide_eq_true h1) (of_decide_eq_true h2))
   ·exact decide_eq_true (kG (of_decide_eq_false h1) fun e => unlike i j hi hj hij (kN e))
   ·exact decide_eq_false (List.lt_asymm (of_decide_eq_true h1))
  refine kI O (by omega) fun p re up => ?_
  have hl2 : p.toList.Perm (List.range ps.length) := by simpa using Array.perm_iff_toList_perm.mp re.perm
  have outs : ∀ il : List Nat, (∀ i ∈ il, i < ps.length) -> aU ((il.map fun i => ps.getD i default).map V.str) (il.map fun i => its.getD i .none) := by
   intro il
   induction il with
   | nil => intro _; exact .nil
   | cons i il ih =>
    intro h
    obtain ⟨t1, e1⟩ := iw rv i (h i List.mem_cons_self)
    refine .cons ?_ (ih fun x hx => h x (List.mem_cons_of_mem _ hx))
    exact ⟨t1, e1⟩
  have rv2 := outs p.toList fun i hi => List.mem_range.mp ((List.Perm.mem_iff hl2).mp hi)
  refine KasFin.intro (news := (l, seqObj "list" #[] e1) :: nw) (g := fun o' => (l, o') :: nw) F' N' (.head nl0) fun h2 c F2 N2 => ?_
  have pq := gI (d := default) rfl re
  have I2 := I.setList (D := l) hm hq rv2 (by rw [List.length_map, pq.length_eq]; simpa using hz) F2.ns (keep h2 _ N2) (N2 (l, _) List.mem_cons_self).1
  exact ⟨_, rfl, q _ h2 pq (du (R := vf) (fun i j _ _ h => (of_decide_eq_true h : (ps.getD i default).cps.toList < (ps.getD j default).cps.toList)) re up) I2⟩
end
section
variable {X : Cx}
def SetO (P : Program) (w : World) (a : Addr) (xs : List Str) : HO := .ext fun h => db P w h a xs
theorem pW (hc : X.calm = true) : de X (.type "set") (fun xs H Q => ∃ (l : Addr) (ys : List Str), xs = [.ref l] /\ SqL X.K H l (ys.map V.str) /\ ys.length <= 1000 /\
  ∀ (a : Addr) (zs : List Str), H a = none -> zs.Nodup -> (∀ x, x ∈ zs ↔ x ∈ ys) -> zs.length <= ys.length -> Q (.ref a) (upd H a (SetO X.prog X.w a zs))) := by
 intro pins s σ H xs us Q I r h
 obtain ⟨l, ys, rfl, hq, hy, q⟩ := h
 obtain ⟨u, rfl, ru⟩ := fz r
 cases ru
 obtain ⟨its, rv, p, hz⟩ := I.list hq
 have li : its.length = ys.length := by have := rv.length; rw [List.length_map] at this; exact this.symm
 have hb : its.toArray.size + 1 < scanBound := by rw [List.size_toArray, li]; unfold scanBound; omega
 refine jl (ys := ys) (I.ok.hd hc) p.isList (fun i v hv => ?_) hb fun h' tk hS k => ?_
 ·have hv' : its[i]? = some v := by simpa using hv
  have hi : i < ys.length := by rw [<- li]; exact (List.getElem?_eq_some_iff.mp hv').1
  obtain ⟨t, e⟩ := iw rv i hi
  refine ⟨t, ?_⟩
  rw [<- e]
  simp [List.getD, hv']
 ·have sz : its.toArray.size = ys.length := by rw [List.size_toArray, li]
  rw [sz] at hS
  refine ⟨.ref s.heap.objs.size, _, I.laid (a := s.heap.objs.size) (o := SetO X.prog X.w s.heap.objs.size (uq (fun i => ys.getD i default) ys.length)) (t' := tk) (fun b u e => k b u (Heap.lt_size e) e) (Nat.le_refl _) ?_, rfl, q _ _ I.fresh (jj _ _) (fun x => ?_) (nV _ _)⟩
  ·refine ⟨hS, ?_, fun h1 h2 x kk => db.at' x kk⟩
   obtain ⟨o, _, _, _, ho, _⟩ := hS
   exact ⟨o, ho⟩
  ·rw [rf]
   constructor
   ·rintro ⟨j, hj, rfl⟩
    have e : ys.getD j default = ys[j] := by simp [List.getD, hj]
    rw [e]; exact List.getElem_mem hj
   ·intro hx
    obtain ⟨j, hj, rfl⟩ := List.getElem_of_mem hx
    exact ⟨j, hj, by simp [List.getD, hj]⟩
theorem lF (hc : X.calm = true) : de X (.builtin "sorted") (fun xs H Q => ∃ (a : Addr) (zs : List Str), xs = [.ref a] /\ H a = some (SetO X.prog X.w a zs) /\ zs.Nodup /\ zs.length < 64 /\
  ∀ (l : Addr) (qs : List Str), H l = none -> qs.Perm zs -> qs.Pairwise vf -> Q (.ref l) (upd H l (.lst (qs.map V.str)))) := by
 intro pins s σ H xs us Q I r h
 obtain ⟨a, zs, rfl, ha, nd, h64, q⟩ := h
 obtain ⟨u, rfl, ru⟩ := fz r
 cases ru
 obtain ⟨hS, _, _⟩ := (show bg X.prog X.w H s.heap a (SetO X.prog X.w a zs) from I.hok a _ ha)
 refine Calls.call_function_entry kind_sorted plain_sorted entry_sorted (args_sorted1 _) ?_
 unfold Builtin.«sorted»
 refine wpAny_bind (m := checkCount "sorted" 1 1 _) (wpAny_pure (wpAny_bind (nA (A := X.A.in1) (I.ok.hd hc) hS (by omega) fun h' d tk vs os k rv hp => ?_)))
 have I1 : Inv X pins σ H { s with heap := h', gens := s.gens, drawn := d, toks := tk } := I.call (ch := []) (Un.kept k) (I.hok.kept k) I.bare fun b hb => nomatch hb
 have lv : vs.length = zs.length := by have := rv.length; rw [List.length_map, hp.length_eq] at this; exact this.symm
 refine wpAny_bind (wpAny_newList ?_ (by rw [lv, sizeLine_eq]; omega))
 have I2 := I1.lnew (t' := tk) rv (by rw [List.length_map, hp.length_eq, sizeLine_eq]; omega)
 refine wpAny_bind (wpAny_holding (qC (A := X.A.in1) (l := h'.objs.size) (ps := os) I2 ab (hp.nodup_iff.mpr nd) (by rw [hp.length_eq]; exact h64) fun qs h2 pq pw I3 => ?_))
 rw [ug] at I3
 exact wpAny_pure ⟨_, rfl, .ref h'.objs.size, _, I3, rfl, q _ qs I1.fresh (pq.trans hp) pw⟩
end
section
variable {X : Cx}
theorem ui {j : Int} (h0 : 0 < j) (h1 : j < 10 ^ 60) : j.natAbs.log2 < 9000 := by
 have hn : j.natAbs < 2 ^ 200 := by omega
 have := (Nat.log2_lt (n := j.natAbs) (k := 200) (by omega)).mpr hn
 omega
def wS (i j : Int) : Prop := 0 < j /\ j < 10 ^ 60
theorem eJ : OpR X (binaryOp .FloorDiv) (rI wS fun i j => .int (i / j)) := opI fun i j _ _ _ _ _ hc q => by
 have h1 : (0 : Int) < j := hc.1
 exact floordiv_int (by omega) (by rw [Int.fdiv_eq_ediv_of_nonneg i (by omega)]; exact q) (.inl (PyProof.noPylong_of_log2 (ui hc.1 hc.2)))
end
theorem kh : ∀ {xs : List V} {us : List Value}, xs.length = us.length -> (∀ (i : Nat) (x : V) (u : Value), xs[i]? = some x -> us[i]? = some u -> aX x u) -> aU xs us
 | [], [], _, _ => .nil
 | [], _ :: _, h, _ => by cases h
 | _ :: _, [], h, _ => by cases h
 | x :: xs, u :: us, h, g => .cons (g 0 x u rfl rfl) (kh (by simpa using h) fun i y v h1 h2 => g (i + 1) y v h1 h2)
section
variable {X : Cx}
end
open PySem PySem.Spec PyProof.Rows
section
variable {prog : Program} {w : World} {A : Around} {E : Value -> Shared -> Prop} {s : Shared}
theorem hU {it t : Addr} {i : Nat} {its : Array Value} {x : Value} {Q : Value -> Shared -> Prop} (hit : s.heap.IsTupleIter it t i) (ht : s.heap.IsTuple t its) (hx : its[i]? = some x)
  (hQ : ∀ h', h'.IsTupleIter it t (i + 1) -> Heap.SameBut it s.heap h' -> Q x { s with heap := h' }) : wpAny (model prog w) A (Builtin.SmallTypes.nextOf (.ref it)) Q E s := by
 obtain ⟨o, ho, hc, hd⟩ := id hit
 obtain ⟨ol, hol, _, nl, hdl⟩ := ht
 unfold Builtin.SmallTypes.nextOf
 refine wpAny_bind (wpAny_callSpecial?_slot (name := Str.ofString "__next__") hit.typeIs F.slot_tuple_iterator_next (wpAny_call_entry F.slot_tuple_iterator_next hit.typeIs F.entry_tuple_iterator_next ?_ (F.args_tuple_iterator_next_1 _)))
 show wpAny _ _ (field (.ref it) 0 >>= _) _ _ s; refine wpAny_bind (wpAny_field ho hd (x := .ref t) rfl ?_)
 show wpAny _ _ (if (Value.ref t == Value.none) = true then _ else _) _ _ s; rw [if_neg (show ¬ ((Value.ref t == Value.none) = true) from Bool.false_ne_true)]
 show wpAny _ _ (field (.ref it) 1 >>= _) _ _ s; refine wpAny_bind (wpAny_field ho hd (x := .int i 0) rfl ?_)
 show wpAny _ _ (seqItems? (.ref t) >>= _) _ _ s; refine wpAny_bind (wpAny_seqItems hol hdl ?_); simp only [Int.toNat_natCast, hx]
 refine wpAny_bind (wpAny_setField ho hd (by simp) (wpAny_pure ⟨x, rfl, wpAny_pure (hQ _ ⟨_, Heap.get?_update_self _ ho (Obj.isFreed_of_fields (Obj.data_mapFields hd _)), (Obj.cls_mapFields ..).trans hc, by rw [Obj.data_mapFields hd]; simp [rawInt]⟩ (Heap.SameBut.update ..))⟩))
theorem eN {it t : Addr} {i : Nat} {its : Array Value} {Q : Value -> Shared -> Prop} (hh : A.handled = none) (hit : s.heap.IsTupleIter it t i) (ht : s.heap.IsTuple t its) (hx : its[i]? = none)
  (hE : ∀ h' e, Heap.ExtBut it s.heap h' -> (∃ o, h'.get? e = some o /\ o.cls = .type "StopIteration") -> E (.ref e) { s with heap := h' }) : wpAny (model prog w) A (Builtin.SmallTypes.nextOf (.ref it)) Q E s := by
 obtain ⟨o, ho, hc, hd⟩ := id hit
 obtain ⟨ol, hol, _, nl, hdl⟩ := ht
 unfold Builtin.SmallTypes.nextOf
 refine wpAny_bind (wpAny_callSpecial?_slot (name := Str.ofString "__next__") hit.typeIs F.slot_tuple_iterator_next (wpAny_call_entry F.slot_tuple_iterator_next hit.typeIs F.entry_tuple_iterator_next ?_ (F.args_tuple_iterator_next_1 _)))
 show wpAny _ _ (field (.ref it) 0 >>= _) _ _ s; refine wpAny_bind (wpAny_field ho hd (x := .ref t) rfl ?_)
 show wpAny _ _ (if (Value.ref t == Value.none) = true then _ else _) _ _ s; rw [if_neg (show ¬ ((Value.ref t == Value.none) = true) from Bool.false_ne_true)]
 show wpAny _ _ (field (.ref it) 1 >>= _) _ _ s; refine wpAny_bind (wpAny_field ho hd (x := .int i 0) rfl ?_)
 show wpAny _ _ (seqItems? (.ref t) >>= _) _ _ s; refine wpAny_bind (wpAny_seqItems hol hdl ?_); simp only [Int.toNat_natCast, hx]
 refine wpAny_bind (wpAny_rule (wpAny_bind (wpAny_setField ho hd (by simp) ?_))); show wpAny _ _ (newExc (.type "StopIteration") [] >>= _) _ _ _
 refine wpAny_bind ?_; simp only [newExc, newTuple]; refine wpAny_bind (wpAny_newObj_type ?_ (by size_fits))
 refine wpAny_bind (m := firstArgMember _ _) (wpAny_of_eq (a := Value.none) (by first | rfl | (simp only [firstArgMember]; rfl)) (wpAny_newObj_type ?_ (by size_fits)))
 simp only [raiseNew]; refine wpAny_bind (wpAny_handled ?_); first | rw [show A.in1.handled = none from hh] | rw [hh]
 refine wpAny_bind (wpAny_pure (wpAny_throw (hE _ _ (((Heap.SameBut.update ..).extBut.push _).push _) ⟨_, Heap.get?_push_size _ rfl, rfl⟩)))
theorem qw (hh : A.handled = none) (it l : Addr) (hne : l ≠ it) (its : Array Value) : Draws prog w A it [it, l] its.size (fun i v => its[i]? = some v) (fun i h => h.IsTupleIter it l i /\ h.IsTuple l its) where
 live := fun _ _ st => let ⟨o, ho, _⟩ := st.1; ⟨o, ho⟩
 frame := fun _ _ _ st hk => ⟨st.1.at fun o e => hk it (by simp) o e, let ⟨o, ho, r⟩ := st.2; ⟨o, hk l (by simp) o ho, r⟩⟩
 item := fun i s Q E hi st hQ => hU st.1 st.2 (x := its[i]) (by simp [hi]) fun h' hit' hs' => hQ _ h' s.toks (by simp [hi]) ⟨hit', st.2.extBut hs'.extBut hne⟩ hs'
 done := fun s Q E st hE => eN hh st.1 st.2 (by simp) hE
theorem iA (l : Addr) (its : Array Value) (n : Nat) (dct : Option Addr) (sl : Array (Option Value)) :
  Meets (Builtin.«enumerate.__new__» ⟨[.type "enumerate", .ref l], []⟩) (fun _ R s => s.heap.get? l = some { cls := .type "tuple", dict := dct, data := .seq its n, slots := sl } /\
   R (.ok (.ret (.ref (s.heap.push { cls := .type "tuple_iterator", data := .fields #[.ref l, .int 0 0] }).objs.size)))
    { s with heap := (s.heap.push { cls := .type "tuple_iterator", data := .fields #[.ref l, .int 0 0] }).push { cls := .type "enumerate", data := .fields #[.none, .bool false, .ref s.heap.objs.size, rawInt 0, .none, .none] } }) :=
 .of_wp fun prog w A R s h => by
  obtain ⟨hp, g, d, tk, os⟩ := s; obtain ⟨hl, h⟩ := h; have hsub := sub_enumerate
  have hL : Heap.IsTuple (Shared.heap ⟨hp, g, d, tk, os⟩) l its := ⟨_, hl, rfl, n, rfl⟩
  wp_walk using AutoSeq1.wpAny_loadPart' hl
  refine wpAny_stack_any fun st => wpAny_pure ?_; split
  ·rename_i c _ _ _ _ _
   cases (c == Value.type "enumerate") <;> (wp_walk using AutoSeq1.wpAny_loadPart' hl, wpAny_pyIter_tuple hL; exact ⟨_, rfl, h⟩)
  ·wp_walk using AutoSeq1.wpAny_loadPart' hl, wpAny_pyIter_tuple hL; exact ⟨_, rfl, h⟩
theorem jq {l : Addr} {its : Array Value} {Q : Value -> Shared -> Prop} (hL : s.heap.IsTuple l its)
  (h : ∀ h', IsEnum h' (s.heap.objs.size + 1) s.heap.objs.size 0 .none -> h'.IsTupleIter s.heap.objs.size l 0 -> h'.objs.size = s.heap.objs.size + 2 -> (∀ b o, s.heap.get? b = some o -> h'.get? b = some o) -> Q (.ref (s.heap.objs.size + 1)) { s with heap := h' }) :
  wpAny (model prog w) A (call (.type "enumerate") [.ref l]) Q E s := by
 obtain ⟨⟨c, dct, dt, sl⟩, hl, hc, n, hd⟩ := hL
 replace hc : c = .type "tuple" := hc
 replace hd : dt = .seq its n := hd
 subst hc hd
 refine callType_new F.called_enumerate (by decide) (F.typeCall_enumerate_1 _) (F.newCall_enumerate_1 _) (fun obj => F.args_object_init_2 obj _) F.entry_enumerate_new (iA l its n dct sl) ⟨hl, ?_⟩
 have hz : (s.heap.push { cls := .type "tuple_iterator", data := .fields #[.ref l, .int 0 0] }).objs.size = s.heap.objs.size + 1 := Heap.size_push ..
 show _ /\ _
 rw [hz]
 have he := Heap.get?_push_size (s.heap.push { cls := .type "tuple_iterator", data := .fields #[.ref l, .int 0 0] }) (o := { cls := .type "enumerate", data := .fields #[.none, .bool false, .ref s.heap.objs.size, rawInt 0, .none, .none] }) rfl
 rw [hz] at he
 refine ⟨⟨_, he, rfl⟩, h _ he ⟨_, Heap.get?_push_of_some _ (Heap.get?_push_size _ rfl), rfl, rfl⟩ (by rw [Heap.size_push, hz]) fun b o x => Heap.get?_push_of_some _ (Heap.get?_push_of_some _ x)⟩
end
def qb (K : PySem.W.Frag) (a : Addr) : It :=
 ⟨fun i H => ∃ xs x, SqT K H a xs /\ xs[i]? = some x, fun i H x H' => ∃ p y, H p = none /\ H' = upd H p (.tup [.int i, y]) /\ x = .ref p /\ ∀ xs, SqT K H a xs -> xs[i]? = some y, fun i H => ∃ xs, SqT K H a xs /\ xs.length <= i⟩
theorem oD {P : Program} {w : World} {K : PySem.W.Frag} {elts : List Expr} {x1} {tp : Pos} (a e it : Addr) (hei : e ≠ it) : iQ P w K (.Tuple elts x1 tp) (qb K a) [e, it] e (fun i h => (∃ old, IsEnum h e it i old) /\ h.IsTupleIter it a i) where
 mem := by simp
 obj := fun i h st b hb => by
  obtain ⟨⟨old, s1⟩, ⟨o, e2, c, d⟩⟩ := st
  rcases List.mem_cons.mp hb with rfl | hb
  ·exact ⟨_, s1, fun v z => by
    have z' : Data.fields _ = Data.cell v := z
    cases z'⟩
  ·have e' : b = it := by simpa using hb
   subst e'
   exact ⟨o, e2, fun v z => by rw [d] at z; cases z⟩
 keep := fun i h h' st k => ⟨let ⟨old, s1⟩ := st.1; ⟨old, k e (by simp) _ s1⟩, st.2.at fun o q => k it (by simp) o q⟩
 item := by
  intro X hP hw hK hc i pins s σ H E I hf st hg
  subst hP hw hK
  obtain ⟨xs, x, hq, hx⟩ := hg
  obtain ⟨its, rv, p, hz⟩ := I.tuple hq
  obtain ⟨u, hu, ru⟩ := rv.get hx
  obtain ⟨f0, f1, f2, f3, f4, f5⟩ := hf e (by simp)
  obtain ⟨g0, g1, g2, g3, g4, g5⟩ := hf it (by simp)
  obtain ⟨⟨old, s1⟩, s2⟩ := st
  have he : e < s.heap.objs.size := Heap.lt_size s1
  have hit : it < s.heap.objs.size := by obtain ⟨o, q, _⟩ := s2; exact Heap.lt_size q
  have hea : e ≠ a := fun z => by
   subst z
   obtain ⟨o, ho, hc', _⟩ := p
   have := ho.symm.trans s1
   injection this with e3
   rw [e3] at hc'
   injection hc' with e4
   exact absurd e4 (by decide)
  have hai : a ≠ it := fun z => by
   subst z
   obtain ⟨o, ho, hc', _⟩ := p
   obtain ⟨o2, ho2, hc2, _⟩ := s2
   have := ho.symm.trans ho2
   injection this with e3
   rw [e3, hc2] at hc'
   injection hc' with e4
   exact absurd e4 (by decide)
  have hi : i < its.toArray.size := by
   have := (List.getElem?_eq_some_iff.mp hu).1
   simpa using this
  refine wpAny_pyNext_enum_itemD (qw (A := X.A.in1) (I.ok.hd hc) it a hai its.toArray) s1 ⟨s2, p⟩ hi hei (by simp [hei, hea]) fun x' h1 tk hPx heo hit1 ht1 hz1 hk1 => ?_
  obtain rfl : x' = u := by
   have h2 : its.toArray[i]? = some u := by simpa using hu
   exact Option.some.inj (hPx.symm.trans h2)
  refine ⟨_, rfl, wpAny_letOwnedTupleGo_enum heo fun h2 he2 hs2 => ?_⟩
  have hn : H s.heap.objs.size = none := I.hok.fresh (Nat.le_refl _)
  have keep : ∀ b o, b ≠ e -> b ≠ it -> s.heap.get? b = some o -> h2.get? b = some o := fun b o h1' h2' q => (hs2.2 b h1').trans (hk1 b o h1' h2' q)
  have tup : h2.get? s.heap.objs.size = some { cls := .type "tuple", data := .seq #[.int i tk, x'] } := (hs2.2 _ (ngt he)).trans ht1
  have I2 : Inv X pins σ (upd H s.heap.objs.size (.tup [.int i, x])) { s with heap := h2, toks := tk + 1 } := by
   have nitx : ∀ b v, H b = some v -> b ≠ e /\ b ≠ it := fun b v q => ⟨(fun z => by rw [z, f0] at q; cases q), (fun z => by rw [z, g0] at q; cases q)⟩
   refine I.step (g' := s.gens) (d' := s.drawn) (ch := [e, it]) (fun b hb => ?_) (fun b o _ _ hc' q _ => keep b o (fun z => hc' (by simp [z])) (fun z => hc' (by simp [z])) q) (fun b o _ _ hc' q _ => ⟨o.slots, keep b o (fun z => hc' (by simp [z])) (fun z => hc' (by simp [z])) q⟩)
    (fun b o _ q n => by rw [aq (nlt (Heap.lt_size q))]; exact n) (fun b o hc' q => ⟨o, keep b o (fun z => hc' (by simp [z])) (fun z => hc' (by simp [z])) q⟩)
    (fun b xs q => by rw [aq (ai q hn)]; exact q) (fun b o v q => by rw [aq (ai q hn)]; exact q) (fun b ps q => ⟨#[], by rw [aq (ai q hn), q]; simp⟩) (fun m hm => ?_) (fun b v q => ?_) I.bare
   ·rcases List.mem_cons.mp hb with rfl | hb
    ·exact ⟨f3, f1, f4, f5⟩
    ·have e' : b = it := by simpa using hb
     subst e'
     exact ⟨g3, g1, g4, g5⟩
   ·obtain ⟨o, es, ep, ho, r⟩ := hm
    exact ⟨o, es, ep, keep _ o (Ne.symm f1) (Ne.symm g1) ho, r⟩
   ·by_cases hb : b = s.heap.objs.size
    ·subst hb
     rw [ab] at q
     cases q
     exact ⟨(show 2 <= sizeLine by rw [sizeLine_eq]; decide), [.int i tk, x'], .cons ⟨_, rfl⟩ (.cons ru .nil), ⟨_, tup, rfl, 0, rfl⟩, _, tup, rfl⟩
    ·rw [aq hb] at q
     refine (I.hok b v q).stay (fun c w' hc' q' => ?_) (fun c q' => by rw [aq (ai q' hn)]; exact q') fun c xs q' => by rw [aq (ai q' hn)]; exact q'
     rcases hc' with z | z
     ·subst z; exact keep c w' (nitx c v q).1 (nitx c v q).2 q'
     ·exact keep c w' (nitx c _ z).1 (nitx c _ z).2 q'
  refine ⟨.ref s.heap.objs.size, _, I2, rfl, ⟨_, x, hn, rfl, rfl, fun ys hy => by rw [I.tuple_inj hy hq]; exact hx⟩, ⟨⟨x', ?_⟩, ?_⟩, fun b hb => ?_⟩
  ·have e1 : ((i + 1 : Nat) : Int) = (i : Int) + 1 := by omega
   rw [e1]
   exact he2
  ·exact hit1.1.at fun o q => (hs2.2 _ (Ne.symm hei)).trans q
  ·have hb' : b < s.heap.objs.size := by
    rcases List.mem_cons.mp hb with rfl | hb
    ·exact he
    ·have e' : b = it := by simpa using hb
     subst e'; exact hit
   rw [aq (nlt hb')]
   exact (hf b hb).1
 done := by
  intro X hP hw hK hc i pins s σ H E I hf st hg
  subst hP hw hK
  obtain ⟨xs, hq, hx⟩ := hg
  obtain ⟨its, rv, p, hz⟩ := I.tuple hq
  obtain ⟨g0, g1, g2, g3, g4, g5⟩ := hf it (by simp)
  obtain ⟨⟨old, s1⟩, s2⟩ := st
  have hl := rv.length
  have hT : s.TypeIs (.ref e) "enumerate" := ⟨_, s1, rfl⟩
  unfold pyNext
  refine wpAny_bind (wpAny_attempt (wpAny_callSpecial?_slot (name := Str.ofString "__next__") hT F.slot_enumerate_next (wpAny_call_entry F.slot_enumerate_next hT F.entry_enumerate_next ?_ (F.args_enumerate_next_1 _))))
  show wpAny _ _ (field (.ref e) 2 >>= _) _ _ _; refine wpAny_bind (wpAny_field s1 rfl (x := .ref it) rfl ?_)
  refine wpAny_bind (eN (A := X.A.in1) (I.ok.hd hc) s2 (show s.heap.IsTuple a its.toArray from p) (by simp; omega) fun h' x he' hx' => ?_)
  obtain ⟨o, ho, hc'⟩ := hx'
  exact wpAny_bind (wpAny_isInstance (T := "StopIteration") (b := true) ⟨o, ho, hc'⟩ isSubtype_stop (wpAny_pure ⟨rfl, I.turned (t' := s.toks) (fun b o hb q => he' b o hb q) g0 g1 g3 g4 g5⟩))
 self := fun A i s Q E st h => by
  obtain ⟨⟨old, s1⟩, s2⟩ := st
  have hT : s.TypeIs (.ref e) "enumerate" := ⟨_, s1, rfl⟩
  refine wpAny_pyIter_slot hT PySem.F.slot_enumerate_iter (wpAny_call_entry PySem.F.slot_enumerate_iter hT PySem.F.entry_enumerate_iter ?_ (PySem.F.args_enumerate_iter_1 _))
  show wpAny _ _ (ret (.ref e)) _ _ s
  exact wpAny_pure ⟨_, rfl, "enumerate", _, hT, PySem.F.slot_enumerate_next.lookup, h⟩
section
variable {X : Cx}
def vH (K : PySem.W.Frag) (ta : TA) : TI := fun σ H R => ta σ H fun vs H1 => ∃ a, vs = [.ref a] /\ (∃ xs, SqT K H1 a xs) /\ R (qb K a) H1
theorem rF {a : Expr} {ta : TA} {p pos : Pos} {elts : List Expr} {x1} {tp : Pos} (hg : Gl X "enumerate") (hm : X.mg "enumerate" = none) (ha : PA X [a] ta) (hs : starEach [a] X.env = [(false, eval a X.env)] := by rfl) : PI X (.Tuple elts x1 tp) (.Call (.Name "enumerate" p) [a] [] pos) (vH X.K ta) := by
 intro pins s σ H R I h
 refine Call_ (cU I hg hm (u := .type "enumerate") (by decide +kernel) (PyProof.Rows.callWith_type1 (thn (ha pos pins s σ H _ I h) fun us s1 ⟨vs, H1, I1, r1, q1⟩ => ?_) hs rfl))
 obtain ⟨l, e, ⟨xs, hq⟩, q⟩ := q1
 subst e
 cases r1 with
 | cons r rr =>
  cases rr
  cases r
  obtain ⟨its, rv, p, hz⟩ := I1.tuple hq
  refine jq (show s1.heap.IsTuple l its.toArray from p) fun h' he hit hsz kp => ?_
  have I2 : Inv X pins σ H1 { s1 with heap := h' } := I1.kept (t' := s1.toks) kp
  have T : iQ X.prog X.w X.K (.Tuple elts x1 tp) (qb X.K l) [s1.heap.objs.size + 1, s1.heap.objs.size] (s1.heap.objs.size + 1) (fun i h => (∃ old, IsEnum h (s1.heap.objs.size + 1) s1.heap.objs.size i old) /\ h.IsTupleIter s1.heap.objs.size l i) := oD l _ _ (wF _)
  refine T.self X.A 0 { s1 with heap := h' } _ _ ⟨⟨_, he⟩, hit⟩ ?_
  refine ⟨s1.heap.objs.size + 1, _, _, _, H1, rfl, I2, T, ⟨⟨_, he⟩, hit⟩, fun b hb => ?_, q⟩
  have hb' : s1.heap.objs.size <= b := by
   rcases List.mem_cons.mp hb with rfl | hb
   ·exact Nat.le_succ _
   ·have e' : b = s1.heap.objs.size := by simpa using hb
    subst e'; exact Nat.le_refl _
  obtain ⟨f0, f1⟩ := I1.fpOk hb' (I1.hok.fresh hb')
  exact ⟨f0, f1⟩
theorem qx {K : PySem.W.Frag} {a : Addr} {xs : List V} {g : TG} {tb : TS} {D : fq} {σ : St} {H : Hp} (Pv : Nat -> St -> Hp -> Prop) (h0 : Pv 0 σ H) (hl : ∀ i σ H, i <= xs.length -> Pv i σ H -> SqT K H a xs)
  (hs : ∀ i x σ H p, xs[i]? = some x -> Pv i σ H -> H p = none -> g (.ref p) σ (upd H p (.tup [.int i, x])) fun σ2 H2 => tb { D with nx := Pv (i + 1), ct := Pv (i + 1), bk := D.nx } σ2 H2) (hd : ∀ σ H, Pv xs.length σ H -> D.nx σ H) :
  ∃ W : Nat -> Nat -> St -> Hp -> Prop, (∃ m, W 0 m σ H) /\ ∀ i m σ H, W i m σ H ->
   ((qb K a).stop i H /\ D.nx σ H) \/ ((qb K a).go i H /\ ∃ N : St -> Hp -> Prop, (∀ σ' H', N σ' H' -> ∃ m', m' < m /\ W (i + 1) m' σ' H') /\ ∀ x H', (qb K a).yld i H x H' -> g x σ H' fun σ2 H2 => tb { D with nx := N, ct := N, bk := D.nx } σ2 H2) := by
 refine ⟨fun i m σ H => m = xs.length - i /\ i <= xs.length /\ Pv i σ H, ⟨xs.length, by simp, Nat.zero_le _, h0⟩, ?_⟩
 rintro i m σ H ⟨rfl, hi, p⟩
 have q := hl i σ H hi p
 by_cases hlt : i < xs.length
 ·refine .inr ⟨⟨xs, xs[i], q, by simp [hlt]⟩, Pv (i + 1), fun σ' H' p' => ⟨xs.length - (i + 1), by omega, rfl, hlt, p'⟩, fun x H' y => ?_⟩
  obtain ⟨b, y, hb, e1, e2, hy⟩ := y
  subst e1 e2
  exact hs i y σ H b (hy xs q) p hb
 ·have e : i = xs.length := by omega
  subst e
  exact .inl ⟨⟨xs, q, Nat.le_refl _⟩, hd σ H p⟩
end
open PySem PySem.Spec PyProof.Rows PySem.W
section
variable {X : Cx}
variable {tg : Expr}
end
noncomputable def cZ (p : Prop) : Bool := @decide p (Classical.propDecidable p)
theorem bZ {p : Prop} : cZ p = true ↔ p := by unfold cZ; exact @decide_eq_true_iff p (Classical.propDecidable p)
theorem di {p : Prop} {b : Bool} (h : b = true ↔ p) : b = cZ p := by rw [Bool.eq_iff_iff, bZ]; exact h
theorem cF {p : Prop} (h : ¬ p) : false = cZ p := di ⟨fun z => (nomatch z), fun z => absurd z h⟩
mutual
theorem Rep.inj {H : Hp} : ∀ (d e : Dv) (v : V), Rep H d v -> Rep H e v -> d = e
 | .tup ds, e, v, h1, h2 => by
  simp only [Rep] at h1
  obtain ⟨a, vs, rfl, ha, rs⟩ := h1
  cases e with
  | tup es => simp only [Rep] at h2; obtain ⟨b, ws, eb, hb, rs2⟩ := h2; cases eb; rw [ha] at hb; cases hb; rw [Reps.inj ds es vs rs rs2]
  | lst es => simp only [Rep] at h2; obtain ⟨b, ws, eb, hb, rs2⟩ := h2; cases eb; rw [ha] at hb; cases hb
  | dct => simp only [Rep] at h2; obtain ⟨b, eb, hb⟩ := h2; cases eb; rw [ha] at hb; cases hb
  | _ => simp only [Rep] at h2; cases h2
 | .lst ds, e, v, h1, h2 => by
  simp only [Rep] at h1
  obtain ⟨a, vs, rfl, ha, rs⟩ := h1
  cases e with
  | lst es => simp only [Rep] at h2; obtain ⟨b, ws, eb, hb, rs2⟩ := h2; cases eb; rw [ha] at hb; cases hb; rw [Reps.inj ds es vs rs rs2]
  | tup es => simp only [Rep] at h2; obtain ⟨b, ws, eb, hb, rs2⟩ := h2; cases eb; rw [ha] at hb; cases hb
  | dct => simp only [Rep] at h2; obtain ⟨b, eb, hb⟩ := h2; cases eb; rw [ha] at hb; cases hb
  | _ => simp only [Rep] at h2; cases h2
 | .dct, e, v, h1, h2 => by
  simp only [Rep] at h1
  obtain ⟨a, rfl, ha⟩ := h1
  cases e with
  | dct => rfl
  | tup es => simp only [Rep] at h2; obtain ⟨b, ws, eb, hb, rs2⟩ := h2; cases eb; rw [ha] at hb; cases hb
  | lst es => simp only [Rep] at h2; obtain ⟨b, ws, eb, hb, rs2⟩ := h2; cases eb; rw [ha] at hb; cases hb
  | _ => simp only [Rep] at h2; cases h2
 | .non, e, v, h1, h2 => by
  simp only [Rep] at h1; subst h1
  cases e with
  | non => rfl
  | tup es => simp only [Rep] at h2; obtain ⟨b, ws, eb, _⟩ := h2; cases eb
  | lst es => simp only [Rep] at h2; obtain ⟨b, ws, eb, _⟩ := h2; cases eb
  | dct => simp only [Rep] at h2; obtain ⟨b, eb, _⟩ := h2; cases eb
  | _ => simp only [Rep] at h2; cases h2
 | .bl _, e, v, h1, h2 => by
  simp only [Rep] at h1; subst h1
  cases e with
  | bl b => simp only [Rep] at h2; cases h2; rfl
  | tup es => simp only [Rep] at h2; obtain ⟨b, ws, eb, _⟩ := h2; cases eb
  | lst es => simp only [Rep] at h2; obtain ⟨b, ws, eb, _⟩ := h2; cases eb
  | dct => simp only [Rep] at h2; obtain ⟨b, eb, _⟩ := h2; cases eb
  | _ => simp only [Rep] at h2; cases h2
 | .int _, e, v, h1, h2 => by
  simp only [Rep] at h1; subst h1
  cases e with
  | int b => simp only [Rep] at h2; cases h2; rfl
  | tup es => simp only [Rep] at h2; obtain ⟨b, ws, eb, _⟩ := h2; cases eb
  | lst es => simp only [Rep] at h2; obtain ⟨b, ws, eb, _⟩ := h2; cases eb
  | dct => simp only [Rep] at h2; obtain ⟨b, eb, _⟩ := h2; cases eb
  | _ => simp only [Rep] at h2; cases h2
 | .str _, e, v, h1, h2 => by
  simp only [Rep] at h1; subst h1
  cases e with
  | str b => simp only [Rep] at h2; cases h2; rfl
  | tup es => simp only [Rep] at h2; obtain ⟨b, ws, eb, _⟩ := h2; cases eb
  | lst es => simp only [Rep] at h2; obtain ⟨b, ws, eb, _⟩ := h2; cases eb
  | dct => simp only [Rep] at h2; obtain ⟨b, eb, _⟩ := h2; cases eb
  | _ => simp only [Rep] at h2; cases h2
theorem Reps.inj {H : Hp} : ∀ (ds es : List Dv) (vs : List V), Reps H ds vs -> Reps H es vs -> ds = es
 | [], es, vs, h1, h2 => by
  simp only [Reps] at h1; subst h1
  cases es with
  | nil => rfl
  | cons e es => simp only [Reps] at h2; obtain ⟨v, r, e2, _⟩ := h2; cases e2
 | d :: ds, es, vs, h1, h2 => by
  simp only [Reps] at h1
  obtain ⟨v, r, rfl, r1, rs1⟩ := h1
  cases es with
  | nil => simp only [Reps] at h2; cases h2
  | cons e es =>
   simp only [Reps] at h2
   obtain ⟨v2, r2, e2, r3, rs3⟩ := h2
   cases e2
   rw [Rep.inj d e v r1 r3, Reps.inj ds es r rs1 rs3]
end
inductive Pl : Nat -> Dv -> Prop
 | int {n : Nat} {i : Int} : Pl n (.int i)
 | str {n : Nat} {x : Str} : Pl n (.str x)
 | non {n : Nat} : Pl n .non
 | tup {n : Nat} {ds : List Dv} : (∀ d ∈ ds, Pl n d) -> Pl (n + 1) (.tup ds)
theorem Pl.up {m n : Nat} {d : Dv} (h : Pl m d) : m <= n -> Pl n d := by
 induction h generalizing n with
 | int => intro _; exact .int
 | str => intro _; exact .str
 | non => intro _; exact .non
 | tup _ ih =>
  intro l
  obtain ⟨k, rfl⟩ : ∃ k, n = k + 1 := ⟨n - 1, by omega⟩
  exact .tup fun d hd => ih d hd (by omega)
theorem fJ {ds es : List Dv} : ((List.range (min ds.length es.length)).all (fun j => cZ (ds[j]? = es[j]?)) && ds.length == es.length) = cZ (Dv.tup ds = .tup es) := by
 refine di ?_
 rw [Bool.and_eq_true, List.all_eq_true, beq_iff_eq]
 constructor
 ·rintro ⟨h, hl⟩
  congr 1
  refine List.ext_getElem? fun j => ?_
  by_cases hj : j < ds.length
  ·exact bZ.mp (h j (List.mem_range.mpr (by omega)))
  ·rw [List.getElem?_eq_none (by omega), List.getElem?_eq_none (by omega)]
 ·intro h
  cases h
  exact ⟨fun j _ => bZ.mpr rfl, rfl⟩
section
variable {X : Cx} {pins : List (Addr × Obj)} {σ : St} {H : Hp} {s : Shared}
theorem dW (I : Inv X pins σ H s) {A : Around} {n : Nat} {ds es : List Dv} {vs ws : List V} {its its2 : List Value}
  (h : ∀ d ∈ ds, ∀ e ∈ es, ∀ (v w : V) (a b : Value), Rep H d v -> Rep H e w -> aX v a -> aX w b -> SeqAt.EqAt A s a b (cZ (d = e))) (rs1 : Reps H ds vs) (rs2 : Reps H es ws) (rv1 : aU vs its) (rv2 : aU ws its2) :
  its.toArray.size = ds.length /\ its2.toArray.size = es.length /\ ∀ j (h1 : j < its.toArray.size) (h2 : j < its2.toArray.size), SeqAt.EqAt A s its.toArray[j] its2.toArray[j] (cZ (ds[j]? = es[j]?)) := by
 have l1 := rs1.length
 have l2 := rs2.length
 have l3 := rv1.length
 have l4 := rv2.length
 refine ⟨by simp; omega, by simp; omega, fun j h1 h2 => ?_⟩
 have hj : j < its.length := by simpa using h1
 have hj2 : j < its2.length := by simpa using h2
 obtain ⟨u, hu1, ru⟩ := aU.get (i := j) (x := vs[j]'(by omega)) rv1 (List.getElem?_eq_getElem _)
 obtain ⟨u2, hu2, ru2⟩ := aU.get (i := j) (x := ws[j]'(by omega)) rv2 (List.getElem?_eq_getElem _)
 obtain ⟨d, hd, Rd⟩ := rs1.get (i := j) (v := vs[j]'(by omega)) (List.getElem?_eq_getElem _)
 obtain ⟨d2, hd2, Rd2⟩ := rs2.get (i := j) (v := ws[j]'(by omega)) (List.getElem?_eq_getElem _)
 have e1 : its.toArray[j] = u := by
  rw [List.getElem?_eq_getElem hj] at hu1
  simpa using Option.some.inj hu1
 have e2 : its2.toArray[j] = u2 := by
  rw [List.getElem?_eq_getElem hj2] at hu2
  simpa using Option.some.inj hu2
 rw [e1, e2, hd, hd2]
 have e3 : cZ (some d = some d2) = cZ (d = d2) := di (by rw [bZ]; exact ⟨Option.some.inj, fun z => by rw [z]⟩)
 rw [e3]
 exact h d (List.mem_of_getElem? hd) d2 (List.mem_of_getElem? hd2) _ _ _ _ Rd Rd2 ru ru2
theorem hZ (I : Inv X pins σ H s) {n : Nat} {d : Dv} (h : Pl n d) : ∀ {e : Dv}, Pl n e -> ∀ {A : Around} {v w : V} {a b : Value}, A.units + n < cLine -> Rep H d v -> Rep H e w -> aX v a -> aX w b -> SeqAt.EqAt A s a b (cZ (d = e)) := by
 induction h with
 | @int n i =>
  intro e he A v w a b hu r1 r2 q1 q2
  simp only [Rep] at r1
  subst r1
  obtain ⟨t, rfl⟩ := (show ∃ t, a = Value.int i t from q1)
  cases he with
  | @int _ j => simp only [Rep] at r2; subst r2; obtain ⟨u, rfl⟩ := (show ∃ t, b = Value.int j t from q2); rw [<- di (b := (i == j)) (by rw [beq_iff_eq]; exact ⟨fun z => by rw [z], fun z => Dv.int.inj z⟩)]; exact SeqAt.EqAt.int_int i t j u
  | @str _ x => simp only [Rep] at r2; subst r2; obtain ⟨u, rfl⟩ := (show ∃ t, b = Value.str x t from q2); rw [<- cF nofun]; exact SeqAt.EqAt.int_str i t x u
  | non => simp only [Rep] at r2; subst r2; cases q2; rw [<- cF nofun]; exact SeqAt.EqAt.int_none i t
  | @tup n es _ => simp only [Rep] at r2; obtain ⟨l, ws, rfl, hl, _⟩ := r2; cases q2; obtain ⟨its, _, p, _⟩ := I.tuple (SqT.of hl); rw [<- cF nofun]; exact SeqAt.EqAt.int_tuple i t p (by omega)
 | @str n x =>
  intro e he A v w a b hu r1 r2 q1 q2
  simp only [Rep] at r1
  subst r1
  obtain ⟨t, rfl⟩ := (show ∃ t, a = Value.str x t from q1)
  cases he with
  | @int _ j => simp only [Rep] at r2; subst r2; obtain ⟨u, rfl⟩ := (show ∃ t, b = Value.int j t from q2); rw [<- cF nofun]; exact SeqAt.EqAt.str_int x t j u
  | @str _ y => simp only [Rep] at r2; subst r2; obtain ⟨u, rfl⟩ := (show ∃ t, b = Value.str y t from q2); rw [<- di (b := (x == y)) (by rw [beq_iff_eq]; exact ⟨fun z => by rw [z], fun z => Dv.str.inj z⟩)]; exact SeqAt.EqAt.str_str x t y u
  | non => simp only [Rep] at r2; subst r2; cases q2; rw [<- cF nofun]; exact SeqAt.EqAt.str_none x t
  | @tup n es _ => simp only [Rep] at r2; obtain ⟨l, ws, rfl, hl, _⟩ := r2; cases q2; obtain ⟨its, _, p, _⟩ := I.tuple (SqT.of hl); rw [<- cF nofun]; exact SeqAt.EqAt.str_tuple x t p (by omega)
 | @non n =>
  intro e he A v w a b hu r1 r2 q1 q2
  simp only [Rep] at r1
  subst r1
  cases q1
  cases he with
  | @int _ j => simp only [Rep] at r2; subst r2; obtain ⟨u, rfl⟩ := (show ∃ t, b = Value.int j t from q2); rw [<- cF nofun]; exact SeqAt.EqAt.none_int j u
  | @str _ y => simp only [Rep] at r2; subst r2; obtain ⟨u, rfl⟩ := (show ∃ t, b = Value.str y t from q2); rw [<- cF nofun]; exact SeqAt.EqAt.none_str y u
  | non => simp only [Rep] at r2; subst r2; cases q2; rw [<- di (b := true) ⟨fun _ => rfl, fun _ => rfl⟩]; exact SeqAt.EqAt.same _
  | @tup n es _ => simp only [Rep] at r2; obtain ⟨l, ws, rfl, hl, _⟩ := r2; cases q2; obtain ⟨its, _, p, _⟩ := I.tuple (SqT.of hl); rw [<- cF nofun]; exact SeqAt.EqAt.none_tuple p (by omega)
 | @tup n ds hds ih =>
  intro e he A v w a b hu r1 r2 q1 q2
  have r1' := r1
  simp only [Rep] at r1
  obtain ⟨l, vs, rfl, h1, rs1⟩ := r1
  cases q1
  obtain ⟨its, rv1, p1, _⟩ := I.tuple (SqT.of h1)
  cases he with
  | @int _ j => simp only [Rep] at r2; subst r2; obtain ⟨u, rfl⟩ := (show ∃ t, b = Value.int j t from q2); rw [<- cF nofun]; exact SeqAt.EqAt.tuple_int j u p1 (by omega)
  | @str _ y => simp only [Rep] at r2; subst r2; obtain ⟨u, rfl⟩ := (show ∃ t, b = Value.str y t from q2); rw [<- cF nofun]; exact SeqAt.EqAt.tuple_str y u p1 (by omega)
  | non => simp only [Rep] at r2; subst r2; cases q2; rw [<- cF nofun]; exact SeqAt.EqAt.tuple_none p1 (by omega)
  | @tup _ es hes =>
   have r2' := r2
   simp only [Rep] at r2
   obtain ⟨b', ws, rfl, h2, rs2⟩ := r2
   cases q2
   obtain ⟨its2, rv2, p2, _⟩ := I.tuple (SqT.of h2)
   have hu' : A.in1.units + n < cLine := by show A.units + 1 + n < cLine; omega
   obtain ⟨z1, z2, q⟩ := dW I (A := A.in1) (n := n) (fun d hd e he v w a b r1 r2 q1 q2 => ih d hd (hes e he) hu' r1 r2 q1 q2) rs1 rs2 rv1 rv2
   by_cases hlb : l = b'
   ·subst hlb
    rw [<- di (b := true) ⟨fun _ => Rep.inj _ _ _ r1' r2', fun _ => rfl⟩]
    exact SeqAt.EqAt.same _
   ·have r := SeqAt.RcAt.tuples (e := fun j => cZ (ds[j]? = es[j]?)) p1 p2 (by omega) q
    rw [z1, z2, fJ] at r
    exact SeqAt.EqAt.of_refs hlb r
end
section
variable {X : Cx}
theorem rK (hu : X.A.units + 150 < cLine) : OpR X (compareOp .Eq) (fun x y H Q => ∃ (n : Nat) (ds es : List Dv), Pl n (.tup ds) /\ Pl n (.tup es) /\ n <= 140 /\ Rep H (.tup ds) x /\ Rep H (.tup es) y /\ ∀ b : Bool, (b = true ↔ ds = es) -> Q (.bl b) H) := by
 intro pins s σ H x y v u Q I rx ry h
 obtain ⟨n, ds, es, hd, he, hn, r1, r2, q⟩ := h
 simp only [Rep] at r1 r2
 obtain ⟨l, vs, rfl, h1, rs1⟩ := r1
 obtain ⟨b', ws, rfl, h2, rs2⟩ := r2
 cases rx
 cases ry
 obtain ⟨its, rv1, p1, _⟩ := I.tuple (SqT.of h1)
 obtain ⟨its2, rv2, p2, _⟩ := I.tuple (SqT.of h2)
 cases hd with
 | @tup n ds hds =>
 cases he with
 | @tup _ es hes =>
 have hu' : X.A.in1.units + n < cLine := by show X.A.units + 1 + n < cLine; omega
 obtain ⟨z1, z2, w⟩ := dW I (A := X.A.in1) (n := n) (fun d hd e he v w a b r1 r2 q1 q2 => hZ I (hds d hd) (hes e he) hu' r1 r2 q1 q2) rs1 rs2 rv1 rv2
 refine SeqAt.RcAt.tuples (e := fun j => cZ (ds[j]? = es[j]?)) p1 p2 (by omega) w X.prog X.w X.xe _ ?_
 rw [z1, z2, fJ]
 exact ⟨.bl _, H, I, rfl, q _ (by rw [bZ]; exact ⟨fun z => Dv.tup.inj z, fun z => by rw [z]⟩)⟩
theorem vK (hu : X.A.units + 150 < cLine) : OpR X (compareOp .NotEq) (fun x y H Q => ∃ (n : Nat) (ds es : List Dv), Pl n (.tup ds) /\ Pl n (.tup es) /\ n <= 140 /\ Rep H (.tup ds) x /\ Rep H (.tup es) y /\ ∀ b : Bool, (b = true ↔ ds ≠ es) -> Q (.bl b) H) := by
 intro pins s σ H x y v u Q I rx ry h
 obtain ⟨n, ds, es, hd, he, hn, r1, r2, q⟩ := h
 simp only [Rep] at r1 r2
 obtain ⟨l, vs, rfl, h1, rs1⟩ := r1
 obtain ⟨b', ws, rfl, h2, rs2⟩ := r2
 cases rx
 cases ry
 obtain ⟨its, rv1, p1, _⟩ := I.tuple (SqT.of h1)
 obtain ⟨its2, rv2, p2, _⟩ := I.tuple (SqT.of h2)
 cases hd with
 | @tup n ds hds =>
 cases he with
 | @tup _ es hes =>
 have hu' : X.A.in1.units + n < cLine := by show X.A.units + 1 + n < cLine; omega
 obtain ⟨z1, z2, w⟩ := dW I (A := X.A.in1) (n := n) (fun d hd e he v w a b r1 r2 q1 q2 => hZ I (hds d hd) (hes e he) hu' r1 r2 q1 q2) rs1 rs2 rv1 rv2
 refine SeqAt.RcNeAt.tuples (e := fun j => cZ (ds[j]? = es[j]?)) p1 p2 (by omega) w X.prog X.w X.xe _ ?_
 rw [z1, z2, fJ]
 refine ⟨.bl _, H, I, rfl, q _ ?_⟩
 rw [Bool.not_eq_true', <- Bool.not_eq_true, bZ]
 exact ⟨fun z y => z (by rw [y]), fun z y => z (Dv.tup.inj y)⟩
end
theorem iX {A : Around} {k : Nat} (hr : cR k A) : A.units + 150 < cLine := by have := hr.un; omega
section
variable {X : Cx} {k : Nat} {f : Addr} {fd : FuncData} {ps : List Str} {sp : Sp} {x : Str} {p pos : Pos} {e : Expr} {es : List Expr} {t : TA}
def vB (f : Addr) (i : Nat) (sp : Sp) (t : TA) : TE := fun σ H Q => σ[i]? = some (some (.ref f)) /\ t σ H fun vs H1 => sp (vs ++ []) H1 Q E0
theorem sN (i : Nat) (F : br X.prog X.w X.K X.mg X.base CX0 k f fd ps sp) (hr : cR k X.A) (hk : PySem.W.keepIn X.K (.ref f) = true) (hb : fw X.K fd ps []) (ha : PA X (e :: es) t) (hN : X.N[i]? = some x := by rfl)
  (hv : Vis X.env.scope x := by first | exact Or.inl rfl | exact Or.inr (Or.inl rfl) | exact Or.inr (Or.inr rfl)) (hd : (x == ("__debug__" : Str)) = false := by decide) (hcd : (x == ("__classdict__" : Str)) = false := by decide)
  (he : starEach (e :: es) X.env = (false, eval e X.env) :: starEach es X.env := by rfl) (hpl : (backTo pos (starEach es X.env)).any (·.1) = false := by rfl) : PE X (.Call (.Name x p) (e :: es) [] pos) (vB f i sp t) := by
 intro pins s σ H Q I h
 obtain ⟨h1, h2⟩ := h
 refine wpAny_Call_Name_kw (thn (sP (X := X) (pos := p) hN hv hd hcd pins s σ H (fun v H' => v = .ref f /\ H' = H) I ⟨_, h1, rfl, rfl⟩) fun u s1 ⟨v, H1, I1, r1, e1, e2⟩ => ?_)
 subst e1 e2
 cases r1
 exact PySem.W.callWith_K (h₀ := X.base) I1.ok.mod.kin hk (thn (ha pos pins s1 σ _ _ I1 h2) fun us s2 ⟨vs, H2, I2, r, q⟩ => ⟨I2.kIn, tR F hr hb .nil tu I2 r q⟩) he hpl
end
section
variable {prog : Program} {w : World} {A : Around} {E : Value -> Shared -> Prop} {s : Shared} {r l S : Addr} {items : Array Value}
theorem qN : typeLookup (.type "list_reverseiterator") "__len__" = pure none := by rw [typeLookup_type, builtinLookup_eq_fast]; kernel_rfl
theorem rO : typeLookup (.type "list_reverseiterator") "__length_hint__" = pure (some (.builtin "list_reverseiterator.__length_hint__")) := by rw [typeLookup_type, builtinLookup_eq_fast]; kernel_rfl
theorem rQ {Q : Bool -> Shared -> Prop} (hT : s.TypeIs (.ref r) "list_reverseiterator") (h : ∀ b, Q b s) : wpAny (model prog w) A (Builtin.List.listLengthHint (.ref r)) Q E s := by
 unfold Builtin.List.listLengthHint
 refine wpAny_bind (wpAny_specialOf hT qN ?_)
 show wpAny _ A (specialOf (Value.ref r) (Str.ofString "__length_hint__") >>= _) _ _ _
 refine wpAny_bind (wpAny_specialOf hT rO ?_)
 generalize hid : ("list_reverseiterator.__length_hint__" : String) = id0
 wp_delta
 rw [show splitId id0 = some ("list_reverseiterator", "__length_hint__") from by subst hid; decide +kernel]
 subst hid
 refine wpAny_bind (wpAny_isInstance (b := true) hT (by rw [isSubtype_type]; kernel_rfl) ?_)
 exact wpAny_pure (h _)
theorem iT {R : Result -> Shared -> Prop} (hh : A.handled = none) (hr : s.heap.IsRevIter r l ((items.size : Int) - 1)) (hl : s.heap.IsList l items) (hlr : l ≠ r) (hSr : S ≠ r) (hSl : S ≠ l) (res : Value) (c₀ : Nat) (hS : s.heap.get? S = some { cls := .type "list", data := .seq #[] c₀ })
  (hR : ∀ h' tk acc' c', (∀ b o, b ≠ S -> b ≠ r -> s.heap.get? b = some o -> h'.get? b = some o) -> h'.get? S = some { cls := .type "list", dict := none, data := .seq acc' c', slots := #[] } -> ItemsOf (fun i v => items[items.size - 1 - i]? = some v) acc' items.size -> R (.ok (.ret res)) { s with heap := h', toks := tk }) (hn : items.size <= sizeLine) :
  wpAny (model prog w) A.in1 (Builtin.List.listExtendWith (.ref S) (.ref r) res) (fun fin s' => match fin with | .done f => R (.ok f) s' | .again c' => c'.quiet = true /\ codeAny (model prog w) A c' R s') (fun e s' => R (.error e) s') s := by
 have W := Walks.listRev (prog := prog) (w := w) (A := A.in1) hh r l hlr items
 have hSf : S ∉ [r, l] := by simp only [List.mem_cons, List.not_mem_nil, or_false, not_or]; exact ⟨hSr, hSl⟩
 have e0 : (items.size : Int) - 1 - ((0 : Nat) : Int) = (items.size : Int) - 1 := by omega
 have key : ∀ (h : Heap) (c₁ tk : Nat), (∀ b o, b ≠ S -> s.heap.get? b = some o -> h.get? b = some o) -> h.get? S = some { cls := .type "list", data := .seq #[] c₁ } -> codeAny (model prog w) A (.builtin "list.extend.loop" ⟨[.ref S, .ref r, res], []⟩) R { s with heap := h, toks := tk } := by
  intro h c₁ tk hk hS₁
  refine codeAny_extend_loopS W.toS hn S hSf res items.size 0 _ #[] c₁ rfl (Nat.zero_le _) ⟨Nat.zero_le _, by rw [e0]; exact hr.at fun o e => hk r o (Ne.symm hSr) e, hl.at fun o e => hk l o (Ne.symm hSl) e⟩ hS₁ (ItemsOf.nil _) fun s' acc' c' hm hS' hacc => ?_
  rw [Moved.eq_with hm]
  refine hR s'.heap s'.toks acc' c' (fun b o hb hbr e => hm.heap b o (fun z => ?_) (hk b o hb e)) hS' hacc
  rcases List.mem_cons.mp z with z | z
  ·exact hb z
  ·exact hbr (List.mem_singleton.mp z)
 unfold Builtin.List.listExtendWith
 refine wpAny_bind (wpAny_typeOf (T := "list_reverseiterator") hr.typeIs ?_)
 have h1 : Builtin.List.listSameRef (.ref S) (.ref r) = false := by simp [Builtin.List.listSameRef, hSr]
 rw [if_neg (by rw [h1]; decide)]
 refine wpAny_bind (wpAny_pyIter_revIter hr ?_)
 refine wpAny_bind (wpAny_holding (rQ hr.typeIs fun b => ?_))
 refine wpAny_ite_split (fun _ => ?_) (fun _ => wpAny_pure ⟨plainId_quiet PySem.F.plain_extend_loop _, key _ c₀ _ (fun b o _ e => e) hS⟩)
 refine wpAny_bind (wpAny_rule (wpAny_bind ?_)); show wpAny _ _ (updateSeq S (·.push .none) >>= fun _ => updateSeq S (·.pop)) _ _ _
 refine wpAny_bind (wpAny_updateSeq hS rfl ?_)
 have hS₂ := Heap.get?_update_self (Obj.mapSeq (·.push Value.none)) hS rfl
 refine wpAny_updateSeq (hz := by seq_fits) hS₂ rfl ?_
 have hS₃ := Heap.get?_update_self (Obj.mapSeq (·.pop)) hS₂ rfl
 exact wpAny_pure ⟨plainId_quiet PySem.F.plain_extend_loop _, key _ _ _ (fun b o hb e => (Heap.get?_update_other _ _ (Ne.symm hb)).trans ((Heap.get?_update_other _ _ (Ne.symm hb)).trans e)) hS₃⟩
theorem sj {R : Result -> Shared -> Prop} (hh : A.handled = none) (hr : s.heap.IsRevIter r l ((items.size : Int) - 1)) (hl : s.heap.IsList l items) (hlr : l ≠ r) (hSr : S ≠ r) (hSl : S ≠ l) (hS : s.heap.get? S = some { cls := .type "list", data := .seq #[] })
  (hR : ∀ h' tk acc' c', (∀ b o, b ≠ S -> b ≠ r -> s.heap.get? b = some o -> h'.get? b = some o) -> h'.get? S = some { cls := .type "list", dict := none, data := .seq acc' c', slots := #[] } -> ItemsOf (fun i v => items[items.size - 1 - i]? = some v) acc' items.size -> R (.ok (.ret .none)) { s with heap := h', toks := tk }) (hn : items.size <= sizeLine) :
  wpAny (model prog w) A.in1 (Builtin.«list.__init__» ⟨[.ref S, .ref r], []⟩) (fun fin s' => match fin with | .done f => R (.ok f) s' | .again c' => c'.quiet = true /\ codeAny (model prog w) A c' R s') (fun e s' => R (.error e) s') s := by
 show wpAny _ _ (do let old <- Builtin.List.listItems (.ref S); Builtin.List.listUpdate (.ref S) (fun _ => #[]); letGo old.toList.reverse; Builtin.List.listExtendWith (.ref S) (.ref r) .none) _ _ s; refine wpAny_bind ?_
 unfold Builtin.List.listItems; refine wpAny_bind (wpAny_seqItems hS rfl (wpAny_pure ?_))
 show wpAny _ _ (updateSeq S (fun _ => #[]) >>= fun _ => letGo (#[] : Array Value).toList.reverse >>= fun _ => Builtin.List.listExtendWith (.ref S) (.ref r) .none) _ _ s; refine wpAny_bind (wpAny_updateSeq hS rfl ?_)
 have hS₂ := Heap.get?_update_self (Obj.mapSeq (fun _ => (#[] : Array Value))) hS rfl
 have oth : ∀ b o, b ≠ S -> s.heap.get? b = some o -> (s.heap.update S (Obj.mapSeq (fun _ => (#[] : Array Value)))).get? b = some o := fun b o hb e => (Heap.get?_update_other _ _ (Ne.symm hb)).trans e
 refine wpAny_bind (wpAny_letGo (iT hh (hr.at fun o e => oth r o (Ne.symm hSr) e) (hl.at fun o e => oth l o (Ne.symm hSl) e) hlr hSr hSl .none _ hS₂ (fun h' tk acc' c' hk hS' hacc => ?_) hn))
 exact hR h' tk acc' c' (fun b o hb hbr e => hk b o hb hbr (oth b o hb e)) hS' hacc
theorem tO {Q : Value -> Shared -> Prop} (hh : A.handled = none) (hr : s.heap.IsRevIter r l ((items.size : Int) - 1)) (hl : s.heap.IsList l items) (hlr : l ≠ r) (hn : items.size <= sizeLine)
  (hQ : ∀ h' tk acc' c', (∀ b o, b ≠ r -> s.heap.get? b = some o -> h'.get? b = some o) -> h'.get? s.heap.objs.size = some { cls := .type "list", dict := none, data := .seq acc' c', slots := #[] } -> ItemsOf (fun i v => items[items.size - 1 - i]? = some v) acc' items.size -> Q (.ref s.heap.objs.size) { s with heap := h', toks := tk }) :
  wpAny (model prog w) A (call (.type "list") [.ref r]) Q E s := by
 refine callType_codes (Q₁ := fun obj s₁ => obj = .ref s.heap.objs.size /\ s₁ = { s with heap := s.heap.push { cls := .type "list", data := .seq #[] } }) PySem.F.called_list (PySem.F.typeCall_list_1 _) PySem.F.entry_list_init (code_list_new _ ⟨rfl, rfl⟩) fun obj s₁ h₁ => ?_
 obtain ⟨rfl, rfl⟩ := h₁
 have hS : (s.heap.push { cls := .type "list", data := .seq #[] }).get? s.heap.objs.size = some { cls := .type "list", data := .seq #[] } := Heap.get?_push_size _ rfl
 have hr' : r < s.heap.objs.size := let ⟨o, ho, _⟩ := hr; Heap.lt_size ho
 have hl' : l < s.heap.objs.size := let ⟨o, ho, _⟩ := hl; Heap.lt_size ho
 refine ⟨⟨_, hS, rfl⟩, PySem.F.args_list_init_2 _ _, sj (A := A.in1) hh (hr.at fun o e => Heap.get?_push_of_some _ e) (hl.at fun o e => Heap.get?_push_of_some _ e) hlr (Nat.ne_of_gt hr') (Nat.ne_of_gt hl') hS (fun h' tk acc' c' hk hS' hacc => ?_) hn⟩
 exact ⟨rfl, hQ h' tk acc' c' (fun b o hb e => hk b o (Nat.ne_of_lt (Heap.lt_size e)) hb (Heap.get?_push_of_some _ e)) hS' hacc⟩
end
section
variable {X : Cx} {e : Expr} {te : TE} {p p1 pos pos1 : Pos}
def qV (K : PySem.W.Frag) (te : TE) : TE := fun σ H Q => te σ H fun x H1 => ∃ l ys, x = .ref l /\ SqL K H1 l ys /\ ∀ a, H1 a = none -> Q (.ref a) (upd H1 a (.lst ys.reverse))
theorem oa (hg : Gl X "list") (hm : X.mg "list" = none) (hg' : Gl X "reversed") (hm' : X.mg "reversed" = none) (hc : X.calm = true) (he : PE X e te)
  (hs : starEach [e] X.env = [(false, eval e X.env)] := by rfl) (hs2 : starEach [.Call (.Name "reversed" p1) [e] [] pos1] X.env = [(false, eval (.Call (.Name "reversed" p1) [e] [] pos1) X.env)] := by rfl) :
  PE X (.Call (.Name "list" p) [.Call (.Name "reversed" p1) [e] [] pos1] [] pos) (qV X.K te) := by
 intro pins s σ H Q I h
 refine wpAny_Call_Name_kw (cU I hg hm (u := .type "list") (by decide +kernel) ?_)
 refine PyProof.Rows.callWith_type1 ?_ hs2 rfl
 rw [hs2]
 show wpAny _ _ (spliced ((false, eval (.Call (.Name "reversed" p1) [e] [] pos1) X.env) :: backTo pos [])) _ _ s
 refine Calls.spliced_cons (wpAny_Call_Name_kw (cU I hg' hm' (u := .type "reversed") (by decide +kernel) (PyProof.Rows.callWith_type1 ?_ hs rfl)))
 rw [hs]
 show wpAny _ _ (spliced ((false, eval e X.env) :: backTo pos1 [])) _ _ s
 refine Calls.spliced_cons (thn (he pins s σ H _ I h) fun u s1 ⟨x, H1, I1, r1, l, ys, ex, hq, q⟩ => Calls.spliced_nil ?_)
 subst ex
 cases r1
 obtain ⟨its, rv, pl, hz⟩ := I1.list hq
 have li : its.length = ys.length := rv.length.symm
 have hl' : l < s1.heap.objs.size := let ⟨o, ho, _⟩ := pl.isList; Heap.lt_size ho
 refine call_reversed_list pl.isList (Calls.spliced_nil ?_)
 refine tO (A := X.A) (s := { s1 with heap := s1.heap.push (revObj l ((its.toArray.size : Int) - 1)) }) (I1.ok.hd hc) ⟨_, Heap.get?_push_size _ rfl, rfl, rfl⟩ (pl.isList.at fun o e => Heap.get?_push_of_some _ e) (Nat.ne_of_lt hl') (by simp; omega) fun h' tk acc c k hS it => ?_
 have k1 : ∀ b o, s1.heap.get? b = some o -> h'.get? b = some o := fun b o e => k b o (Nat.ne_of_lt (Heap.lt_size e)) (Heap.get?_push_of_some _ e)
 have rv' : aU ys.reverse acc.toList := by
  refine kh (by have h1 := it.1; have h2 : acc.toList.length = acc.size := Array.length_toList; rw [List.length_reverse, h2, h1]; simpa using li.symm) fun i x u h1 h2 => ?_
  have hi : i < ys.length := by have := (List.getElem?_eq_some_iff.mp h1).1; rwa [List.length_reverse] at this
  rw [List.getElem?_reverse hi] at h1
  have h3 := it.2 i u (by rw [<- Array.getElem?_toList]; exact h2)
  have h4 : its[ys.length - 1 - i]? = some u := by simpa [li] using h3
  obtain ⟨u', hu', ru⟩ := rv.get h1
  rw [h4] at hu'
  cases hu'
  exact ru
 have hz2 : (s1.heap.push (revObj l ((its.toArray.size : Int) - 1))).objs.size = s1.heap.objs.size + 1 := Heap.size_push ..
 refine ⟨.ref (s1.heap.push (revObj l ((its.toArray.size : Int) - 1))).objs.size, _, I1.laid (t' := tk) (a := (s1.heap.push (revObj l ((its.toArray.size : Int) - 1))).objs.size) k1 (by rw [hz2]; exact Nat.le_succ _) (show bg X.prog X.w _ h' _ (.lst ys.reverse) from ⟨by rw [List.length_reverse]; exact hz, acc.toList, c, rv', by simpa using hS⟩), rfl, q _ (I1.hok.fresh (by rw [hz2]; exact Nat.le_succ _))⟩
end
def Itz (K : PySem.W.Frag) (a b : Addr) : It :=
 ⟨fun i H => ∃ xs ys x y, SqL K H a xs /\ SqL K H b ys /\ xs[i]? = some x /\ ys[i]? = some y, fun i H z H' => ∃ p x y, H p = none /\ H' = upd H p (.tup [x, y]) /\ z = .ref p /\ (∀ xs, SqL K H a xs -> xs[i]? = some x) /\ ∀ ys, SqL K H b ys -> ys[i]? = some y,
 fun i H => ∃ xs ys, SqL K H a xs /\ SqL K H b ys /\ (xs.length <= i \/ ys.length <= i)⟩
theorem bV {h : Heap} {a b : Addr} {o u : Obj} (h1 : h.get? a = some o) (h2 : h.get? b = some u) (n : o.cls ≠ u.cls) : a ≠ b := fun z => by subst z; rw [h1] at h2; cases h2; exact n rfl
theorem sf {P : Program} {w : World} {K : PySem.W.Frag} {elts : List Expr} {x1} {tp : Pos} (a b z TI TO i1 i2 : Addr) (D1 : TI ≠ z /\ TO ≠ z /\ i1 ≠ z /\ i2 ≠ z /\ TI ≠ TO /\ TI ≠ i1 /\ TI ≠ i2 /\ TO ≠ i1 /\ TO ≠ i2 /\ i1 ≠ i2) :
  iQ P w K (.Tuple elts x1 tp) (Itz K a b) [z, TI, TO, i1, i2] z (fun i h => IsZip h z TI TO .none /\ IsPair h TI (.ref i1) (.ref i2) /\ (∃ u v, IsPair h TO u v) /\ h.IsListIter i1 a i /\ h.IsListIter i2 b i) where
 mem := by simp
 obj := fun i h st c hc => by
  obtain ⟨hz, hTI, ⟨u, v, hTO⟩, ⟨o1, e1, c1, d1⟩, ⟨o2, e2, c2, d2⟩⟩ := st
  simp only [List.mem_cons, List.not_mem_nil, or_false] at hc
  rcases hc with rfl | rfl | rfl | rfl | rfl
  ·exact ⟨_, hz, fun v z => by
    have z' : Data.fields _ = Data.cell v := z
    cases z'⟩
  ·exact ⟨_, hTI, fun v z => by
    have z' : Data.seq _ _ = Data.cell v := z
    cases z'⟩
  ·exact ⟨_, hTO, fun v z => by
    have z' : Data.seq _ _ = Data.cell v := z
    cases z'⟩
  ·exact ⟨o1, e1, fun v z => by rw [d1] at z; cases z⟩
  ·exact ⟨o2, e2, fun v z => by rw [d2] at z; cases z⟩
 keep := fun i h h' st k => by
  obtain ⟨hz, hTI, ⟨u, v, hTO⟩, h1, h2⟩ := st
  exact ⟨k z (by simp) _ hz, k TI (by simp) _ hTI, ⟨u, v, k TO (by simp) _ hTO⟩, h1.at fun o e => k i1 (by simp) o e, h2.at fun o e => k i2 (by simp) o e⟩
 item := by
  intro X hP hw hK hc i pins s σ H E I hf st hg
  subst hP hw hK
  obtain ⟨xs, ys, x, y, hq1, hq2, hx, hy⟩ := hg
  obtain ⟨its1, rv1, p1, _⟩ := I.list hq1
  obtain ⟨its2, rv2, p2, _⟩ := I.list hq2
  obtain ⟨u1, hu1, ru1⟩ := rv1.get hx
  obtain ⟨u2, hu2, ru2⟩ := rv2.get hy
  obtain ⟨hz, hTI, ⟨u, v, hTO⟩, h1, h2⟩ := st
  obtain ⟨d1, d2, d3, d4, d5, d6, d7, d8, d9, d10⟩ := D1
  have L1 := p1.isList
  have L2 := p2.isList
  have D : ZipApart z TI TO i1 i2 a b := by
   obtain ⟨o1, e1, c1, _⟩ := id L1
   obtain ⟨o2, e2, c2, _⟩ := id L2
   obtain ⟨o3, e3, c3, _⟩ := id h1
   obtain ⟨o4, e4, c4, _⟩ := id h2
   exact ⟨d1, d2, d3, d4, d5, d6, d7, d8, d9, d10, bV e1 hz (by rw [c1]; exact fun z => absurd (Value.type.inj z) (by decide)), bV e1 hTO (by rw [c1]; exact fun z => absurd (Value.type.inj z) (by decide)), bV e1 e3 (by rw [c1, c3]; exact fun z => absurd (Value.type.inj z) (by decide)), bV e1 e4 (by rw [c1, c4]; exact fun z => absurd (Value.type.inj z) (by decide)),
    bV e2 hz (by rw [c2]; exact fun z => absurd (Value.type.inj z) (by decide)), bV e2 hTO (by rw [c2]; exact fun z => absurd (Value.type.inj z) (by decide)), bV e2 e3 (by rw [c2, c3]; exact fun z => absurd (Value.type.inj z) (by decide)), bV e2 e4 (by rw [c2, c4]; exact fun z => absurd (Value.type.inj z) (by decide))⟩
  refine wpAny_pyNext_zip_item D hz hTI hTO h1 h2 L1 L2 (x := u1) (y := u2) (by simpa using hu1) (by simpa using hu2) fun h3 a1 a2 a3 a4 a5 a6 hk => ?_
  refine ⟨_, rfl, wpAny_letOwnedTupleGo_zip a1 fun h4 hz4 hs4 => ?_⟩
  have hzl : z < s.heap.objs.size := Heap.lt_size hz
  have hn : H s.heap.objs.size = none := I.hok.fresh (Nat.le_refl _)
  have keep : ∀ c o, c ≠ z -> c ≠ TO -> c ≠ i1 -> c ≠ i2 -> s.heap.get? c = some o -> h4.get? c = some o := fun c o c1 c2 c3 c4 q => (hs4.2 c c1).trans (hk c o c1 c2 c3 c4 q)
  have tup : h4.get? s.heap.objs.size = some { cls := .type "tuple", data := .seq #[u1, u2] } := (hs4.2 _ (ngt hzl)).trans a5
  have fpn : ∀ c ∈ [z, TI, TO, i1, i2], H c = none := fun c hc => (hf c hc).1
  have nit : ∀ c v, H c = some v -> c ≠ z /\ c ≠ TO /\ c ≠ i1 /\ c ≠ i2 := fun c v q => ⟨(fun e => by rw [e, fpn z (by simp)] at q; cases q), (fun e => by rw [e, fpn TO (by simp)] at q; cases q), (fun e => by rw [e, fpn i1 (by simp)] at q; cases q), (fun e => by rw [e, fpn i2 (by simp)] at q; cases q)⟩
  have kch : ∀ c o, c ∉ [z, TO, i1, i2] -> s.heap.get? c = some o -> h4.get? c = some o := fun c o hc q => keep c o (fun e => hc (by simp [e])) (fun e => hc (by simp [e])) (fun e => hc (by simp [e])) (fun e => hc (by simp [e])) q
  have I2 : Inv X pins σ (upd H s.heap.objs.size (.tup [x, y])) { s with heap := h4, toks := s.toks } := by
   refine I.step (g' := s.gens) (d' := s.drawn) (ch := [z, TO, i1, i2]) (fun c hc => ?_) (fun c o _ _ hc' q _ => kch c o hc' q) (fun c o _ _ hc' q _ => ⟨o.slots, kch c o hc' q⟩) (fun c o _ q n => by rw [aq (nlt (Heap.lt_size q))]; exact n) (fun c o hc' q => ⟨o, kch c o hc' q⟩)
    (fun c xs q => by rw [aq (ai q hn)]; exact q) (fun c o v q => by rw [aq (ai q hn)]; exact q) (fun c ps q => ⟨#[], by rw [aq (ai q hn), q]; simp⟩) (fun m hm => ?_) (fun c v q => ?_) I.bare
   ·have hc' : c ∈ [z, TI, TO, i1, i2] := by
     simp only [List.mem_cons, List.not_mem_nil, or_false] at hc ⊢
     rcases hc with e | e | e | e <;> simp [e]
    obtain ⟨f0, f1, f2, f3, f4, f5⟩ := hf c hc'
    exact ⟨f3, f1, f4, f5⟩
   ·obtain ⟨o, es, ep, ho, r⟩ := hm
    exact ⟨o, es, ep, keep _ o (Ne.symm (hf z (by simp)).2.1) (Ne.symm (hf TO (by simp)).2.1) (Ne.symm (hf i1 (by simp)).2.1) (Ne.symm (hf i2 (by simp)).2.1) ho, r⟩
   ·by_cases hb : c = s.heap.objs.size
    ·subst hb
     rw [ab] at q
     cases q
     exact ⟨(show 2 <= sizeLine by rw [sizeLine_eq]; decide), [u1, u2], .cons ru1 (.cons ru2 .nil), ⟨_, tup, rfl, 0, rfl⟩, _, tup, rfl⟩
    ·rw [aq hb] at q
     refine (I.hok c v q).stay (fun c' w' hc' q' => ?_) (fun c' q' => by rw [aq (ai q' hn)]; exact q') fun c' xs q' => by rw [aq (ai q' hn)]; exact q'
     rcases hc' with e | e
     ·subst e; obtain ⟨n1, n2, n3, n4⟩ := nit c' v q; exact keep c' w' n1 n2 n3 n4 q'
     ·obtain ⟨n1, n2, n3, n4⟩ := nit c' _ e; exact keep c' w' n1 n2 n3 n4 q'
  refine ⟨.ref s.heap.objs.size, _, I2, rfl, ⟨_, x, y, hn, rfl, rfl, fun xs' h' => by rw [I.list_inj h' hq1]; exact hx, fun ys' h' => by rw [I.list_inj h' hq2]; exact hy⟩, ?_, fun c hc => ?_⟩
  ·exact ⟨hz4, hs4.extBut _ _ d1 (hk TI _ d1 d5 d6 d7 hTI), ⟨_, _, hs4.extBut _ _ d2 a2⟩, a3.at fun o e => hs4.extBut _ _ d3 e, a4.at fun o e => hs4.extBut _ _ d4 e⟩
  ·have hb' : c < s.heap.objs.size := by
    simp only [List.mem_cons, List.not_mem_nil, or_false] at hc
    obtain ⟨o3, e3, _⟩ := h1
    obtain ⟨o4, e4, _⟩ := h2
    rcases hc with e | e | e | e | e
    ·rw [e]; exact hzl
    ·rw [e]; exact Heap.lt_size hTI
    ·rw [e]; exact Heap.lt_size hTO
    ·rw [e]; exact Heap.lt_size e3
    ·rw [e]; exact Heap.lt_size e4
   rw [aq (nlt hb')]
   exact fpn c hc
 done := by
  intro X hP hw hK hc i pins s σ H E I hf st hg
  subst hP hw hK
  obtain ⟨xs, ys, hq1, hq2, hend⟩ := hg
  obtain ⟨its1, rv1, p1, _⟩ := I.list hq1
  obtain ⟨its2, rv2, p2, _⟩ := I.list hq2
  obtain ⟨hz, hTI, ⟨u, v, hTO⟩, h1, h2⟩ := st
  obtain ⟨d1, d2, d3, d4, d5, d6, d7, d8, d9, d10⟩ := D1
  have L1 := p1.isList
  have L2 := p2.isList
  have D : ZipApart z TI TO i1 i2 a b := by
   obtain ⟨o1, e1, c1, _⟩ := id L1
   obtain ⟨o2, e2, c2, _⟩ := id L2
   obtain ⟨o3, e3, c3, _⟩ := id h1
   obtain ⟨o4, e4, c4, _⟩ := id h2
   exact ⟨d1, d2, d3, d4, d5, d6, d7, d8, d9, d10, bV e1 hz (by rw [c1]; exact fun z => absurd (Value.type.inj z) (by decide)), bV e1 hTO (by rw [c1]; exact fun z => absurd (Value.type.inj z) (by decide)), bV e1 e3 (by rw [c1, c3]; exact fun z => absurd (Value.type.inj z) (by decide)), bV e1 e4 (by rw [c1, c4]; exact fun z => absurd (Value.type.inj z) (by decide)),
    bV e2 hz (by rw [c2]; exact fun z => absurd (Value.type.inj z) (by decide)), bV e2 hTO (by rw [c2]; exact fun z => absurd (Value.type.inj z) (by decide)), bV e2 e3 (by rw [c2, c3]; exact fun z => absurd (Value.type.inj z) (by decide)), bV e2 e4 (by rw [c2, c4]; exact fun z => absurd (Value.type.inj z) (by decide))⟩
  have l1 := rv1.length
  have l2 := rv2.length
  have fpn : ∀ c ∈ [z, TI, TO, i1, i2], H c = none := fun c hc => (hf c hc).1
  refine wpAny_pyNext_zip_end (I.ok.hd hc) D hz hTI hTO h1 h2 L1 L2 (hend.imp (fun h => by simp; omega) fun h => by simp; omega) fun h4 hk => ⟨rfl, ?_⟩
  have nit : ∀ c v, H c = some v -> c ≠ z /\ c ≠ TO /\ c ≠ i1 /\ c ≠ i2 := fun c v q => ⟨(fun e => by rw [e, fpn z (by simp)] at q; cases q), (fun e => by rw [e, fpn TO (by simp)] at q; cases q), (fun e => by rw [e, fpn i1 (by simp)] at q; cases q), (fun e => by rw [e, fpn i2 (by simp)] at q; cases q)⟩
  have kch : ∀ c o, c ∉ [z, TO, i1, i2] -> s.heap.get? c = some o -> h4.get? c = some o := fun c o hc q => hk c o (fun e => hc (by simp [e])) (fun e => hc (by simp [e])) (fun e => hc (by simp [e])) (fun e => hc (by simp [e])) q
  refine I.step (t' := s.toks) (g' := s.gens) (d' := s.drawn) (ch := [z, TO, i1, i2]) (fun c hc => ?_) (fun c o _ _ hc' q _ => kch c o hc' q) (fun c o _ _ hc' q _ => ⟨o.slots, kch c o hc' q⟩) (fun c o _ q n => n) (fun c o hc' q => ⟨o, kch c o hc' q⟩)
   (fun c xs q => q) (fun c o v q => q) (fun c ps q => ⟨#[], by rw [q]; simp⟩) (fun m hm => ?_) (fun c v q => ?_) I.bare
  ·have hc' : c ∈ [z, TI, TO, i1, i2] := by
    simp only [List.mem_cons, List.not_mem_nil, or_false] at hc ⊢
    rcases hc with e | e | e | e <;> simp [e]
   obtain ⟨f0, f1, f2, f3, f4, f5⟩ := hf c hc'
   exact ⟨f3, f1, f4, f5⟩
  ·obtain ⟨o, es, ep, ho, r⟩ := hm
   exact ⟨o, es, ep, hk _ o (Ne.symm (hf z (by simp)).2.1) (Ne.symm (hf TO (by simp)).2.1) (Ne.symm (hf i1 (by simp)).2.1) (Ne.symm (hf i2 (by simp)).2.1) ho, r⟩
  ·refine (I.hok c v q).stay (fun c' w' hc' q' => ?_) (fun c' q' => q') fun c' xs q' => q'
   rcases hc' with e | e
   ·subst e; obtain ⟨n1, n2, n3, n4⟩ := nit c' v q; exact hk c' w' n1 n2 n3 n4 q'
   ·obtain ⟨n1, n2, n3, n4⟩ := nit c' _ e; exact hk c' w' n1 n2 n3 n4 q'
 self := fun A i s Q E st h => wpAny_pyIter_zip st.1 h
section
variable {X : Cx}
def xE (K : PySem.W.Frag) (ta : TA) : TI := fun σ H R => ta σ H fun vs H1 => ∃ a b, vs = [.ref a, .ref b] /\ (∃ xs, SqL K H1 a xs) /\ (∃ ys, SqL K H1 b ys) /\ R (Itz K a b) H1
theorem lZ {a b : Expr} {ta : TA} {p pos : Pos} {elts : List Expr} {x1} {tp : Pos} (hg : Gl X "zip") (hm : X.mg "zip" = none) (ha : PA X [a, b] ta) (hs : starEach [a, b] X.env = (false, eval a X.env) :: starEach [b] X.env := by rfl) (hpl : (backTo pos (starEach [b] X.env)).any (·.1) = false := by rfl) :
  PI X (.Tuple elts x1 tp) (.Call (.Name "zip" p) [a, b] [] pos) (xE X.K ta) := by
 intro pins s σ H R I h
 refine Call_ (cU I hg hm (u := .type "zip") (by decide +kernel) (PyProof.Rows.callWith_type1 (thn (ha pos pins s σ H _ I h) fun us s1 ⟨vs, H1, I1, r1, q1⟩ => ?_) hs hpl))
 obtain ⟨l, m, e, ⟨xs, hq1⟩, ⟨ys, hq2⟩, q⟩ := q1
 subst e
 obtain ⟨u, w', rfl, ru, rw'⟩ := pC r1
 cases ru
 cases rw'
 obtain ⟨its1, rv1, p1, _⟩ := I1.list hq1
 obtain ⟨its2, rv2, p2, _⟩ := I1.list hq2
 refine call_zip_2 p1.isList p2.isList fun h' hz hTI hTO hi1 hi2 hsz kp => ?_
 have I2 : Inv X pins σ H1 { s1 with heap := h' } := I1.kept (t' := s1.toks) kp
 have add : ∀ (n i j : Nat), i ≠ j -> n + i ≠ n + j := fun n i j h z => h (Nat.add_left_cancel z)
 have T : iQ X.prog X.w X.K (.Tuple elts x1 tp) (Itz X.K l m) [s1.heap.objs.size + 4, s1.heap.objs.size + 2, s1.heap.objs.size + 3, s1.heap.objs.size, s1.heap.objs.size + 1] (s1.heap.objs.size + 4) _ :=
  sf l m (s1.heap.objs.size + 4) (s1.heap.objs.size + 2) (s1.heap.objs.size + 3) s1.heap.objs.size (s1.heap.objs.size + 1)
   ⟨add _ 2 4 (by decide), add _ 3 4 (by decide), add _ 0 4 (by decide), add _ 1 4 (by decide), add _ 2 3 (by decide), add _ 2 0 (by decide), add _ 2 1 (by decide), add _ 3 0 (by decide), add _ 3 1 (by decide), add _ 0 1 (by decide)⟩
 refine T.self X.A 0 { s1 with heap := h' } _ _ ⟨hz, hTI, ⟨_, _, hTO⟩, hi1, hi2⟩ ?_
 refine ⟨s1.heap.objs.size + 4, _, _, _, H1, rfl, I2, T, ⟨hz, hTI, ⟨_, _, hTO⟩, hi1, hi2⟩, fun b hb => ?_, q⟩
 have hb' : s1.heap.objs.size <= b := by
  simp only [List.mem_cons, List.not_mem_nil, or_false] at hb
  rcases hb with e | e | e | e | e
  ·rw [e]; exact Nat.le_add_right _ _
  ·rw [e]; exact Nat.le_add_right _ _
  ·rw [e]; exact Nat.le_add_right _ _
  ·rw [e]; exact Nat.le_refl _
  ·rw [e]; exact Nat.le_add_right _ _
 obtain ⟨f0, f1⟩ := I1.fpOk hb' (I1.hok.fresh hb')
 exact ⟨f0, f1⟩
theorem iy {K : PySem.W.Frag} {a b : Addr} {xs ys : List V} {g : TG} {tb : TS} {D : fq} {σ : St} {H : Hp} (Pv : Nat -> St -> Hp -> Prop) (h0 : Pv 0 σ H) (hl : ∀ i σ H, Pv i σ H -> SqL K H a xs /\ SqL K H b ys)
  (hs : ∀ i x y σ H p, xs[i]? = some x -> ys[i]? = some y -> Pv i σ H -> H p = none -> g (.ref p) σ (upd H p (.tup [x, y])) fun σ2 H2 => tb { D with nx := Pv (i + 1), ct := Pv (i + 1), bk := D.nx } σ2 H2) (hd : ∀ σ H, Pv (min xs.length ys.length) σ H -> D.nx σ H) :
  ∃ W : Nat -> Nat -> St -> Hp -> Prop, (∃ m, W 0 m σ H) /\ ∀ i m σ H, W i m σ H ->
   ((Itz K a b).stop i H /\ D.nx σ H) \/ ((Itz K a b).go i H /\ ∃ N : St -> Hp -> Prop, (∀ σ' H', N σ' H' -> ∃ m', m' < m /\ W (i + 1) m' σ' H') /\ ∀ x H', (Itz K a b).yld i H x H' -> g x σ H' fun σ2 H2 => tb { D with nx := N, ct := N, bk := D.nx } σ2 H2) := by
 refine ⟨fun i m σ H => m = min xs.length ys.length - i /\ i <= min xs.length ys.length /\ Pv i σ H, ⟨min xs.length ys.length, by simp, Nat.zero_le _, h0⟩, ?_⟩
 rintro i m σ H ⟨rfl, hi, p⟩
 obtain ⟨q1, q2⟩ := hl i σ H p
 by_cases hlt : i < min xs.length ys.length
 ·have h1 : i < xs.length := by omega
  have h2 : i < ys.length := by omega
  refine .inr ⟨⟨xs, ys, xs[i], ys[i], q1, q2, by simp [h1], by simp [h2]⟩, Pv (i + 1), fun σ' H' p' => ⟨min xs.length ys.length - (i + 1), by omega, rfl, hlt, p'⟩, fun z H' y => ?_⟩
  obtain ⟨c, x, y, hb, e1, e2, hx, hy⟩ := y
  subst e1 e2
  exact hs i x y σ H c (hx xs q1) (hy ys q2) p hb
 ·have e : i = min xs.length ys.length := by omega
  subst e
  exact .inl ⟨⟨xs, ys, q1, q2, by omega⟩, hd σ H p⟩
end
section
variable {X : Cx} {pins : List (Addr × Obj)} {s : Shared} {σ : St} {H : Hp}
end
section
variable {X : Cx}
end
section
end
section
variable {prog : Program} {w : World} {A : Around} {E : Value -> Shared -> Prop} {s : Shared}
end
section
variable {X : Cx} {tg e : Expr} {ta : TA} {p pos : Pos}
end
section
variable {X : Cx}
end
section
variable {X : Cx}
end
open PySem PySem.Spec PyProof.Rows
section
variable {σ : St} {H : Hp} {d e : Dv} {ds es : List Dv} {ta tb : TE} {t : TA} {l : Addr}
variable {i : Nat} {u : TS} {D : fq}
end
open PySem PySem.Spec PyProof.Rows PySem.W
section
variable {X : Cx}
end
section
variable {prog : Program} {w : World} {A : Around} {E : Value -> Shared -> Prop} {s : Shared}
theorem oJ {t sl : Addr} {items : Array Value} {lo st : Int} {n : Nat} {Q : Value -> Shared -> Prop} (ht : IsTup s.heap t items) (hTs : s.TypeIs (.ref sl) "slice")
  (hap : ∀ {A' : Around} {E' : Value -> Shared -> Prop} {Q' : Int × Int × Nat -> Shared -> Prop}, Q' (lo, st, n) s -> wpAny (model prog w) A' (Builtin.Slice.sliceApplied (.ref sl) (pure (items.size : Int))) Q' E' s)
  (hw : (lo == 0 && st == 1 && n == items.size) = true -> Q (.ref t) s)
  (hn : Q (.ref s.heap.objs.size) { s with heap := s.heap.push { cls := .type "tuple", data := .seq ((List.range n).filterMap fun (k : Nat) => items[(lo + (k : Int) * st).toNat]?).toArray } })
  (hsz : ((List.range n).filterMap fun (k : Nat) => items[(lo + (k : Int) * st).toNat]?).toArray.size <= sizeLine) : wpAny (model prog w) A (getItem (.ref t) (.ref sl)) Q E s := by
 unfold getItem; try with_reducible refine wpAny_holding ?_
 (first | refine wpAny_bind (wpAny_pure ?_) | skip); refine wpAny_bind (wpAny_sequenceKey ht.typeIs (by decide) ?_)
 refine wpAny_bind (wpAny_callSpecial?_slot (name := Str.ofString "__getitem__") ht.typeIs PyProof.Rows.slot_tuple_getitem (wpAny_call_entry PyProof.Rows.slot_tuple_getitem ht.typeIs entry_tuple_getitem ?_ (args_tuple_getitem _ _)))
 show wpAny _ _ (Builtin.Tuple.tupleItemsOf (.ref t) >>= _) _ _ s; refine wpAny_bind (tupleItemsOf_ ht ?_)
 refine wpAny_bind (wpAny_typeOf hTs ?_); rw [if_pos (by decide)]
 refine wpAny_bind (hap ?_)
 show wpAny _ _ (if (lo == 0 && st == 1 && n == items.size) = true then _ else _) _ _ s
 by_cases c : (lo == 0 && st == 1 && n == items.size) = true
 ·rw [if_pos c]
  refine wpAny_bind (m := Builtin.Tuple.tupleIsExact (.ref t)) ?_
  unfold Builtin.Tuple.tupleIsExact
  refine wpAny_bind (wpAny_typeOf ht.typeIs (wpAny_pure ?_))
  show wpAny _ _ (if (Value.type "tuple" == Value.type "tuple") = true then _ else _) _ _ s
  rw [if_pos (by decide)]
  exact wpAny_bind (wpAny_rule (wpAny_bind (wpAny_pure (wpAny_pure ⟨_, rfl, wpAny_pure (hw c)⟩))))
 ·rw [if_neg c]
  first
   | exact wpAny_bind (m := Builtin.Tuple.tupleExact _) (wpAny_newObj_type (wpAny_pure ⟨_, rfl, wpAny_pure hn⟩) hsz)
   | exact wpAny_bind (m := Builtin.Tuple.tupleExact _) (wpAny_newObj_type (wpAny_bind (wpAny_pure (wpAny_pure ⟨_, rfl, wpAny_pure hn⟩))) hsz)
   | exact wpAny_bind (wpAny_bind (m := Builtin.Tuple.tupleExact _) (wpAny_newObj_type (wpAny_pure (wpAny_pure ⟨_, rfl, wpAny_pure hn⟩)) hsz))
   | exact wpAny_bind (wpAny_bind (m := Builtin.Tuple.tupleExact _) (wpAny_newObj_type (wpAny_pure ⟨_, rfl, wpAny_pure hn⟩) hsz))
end
section
variable {X : Cx}
def ud (K : PySem.W.Frag) : V -> Option Int -> Option Int -> Hp -> VK -> Prop := fun x lo hi H Q => ∃ a xs, x = .ref a /\ SqT K H a xs /\ (cE xs lo hi = xs -> Q (.ref a) H) /\ ∀ p, H p = none -> Q (.ref p) (upd H p (.tup (cE xs lo hi)))
theorem ic : SlR X (ud X.K) := by
 intro pins s σ H x v vl vu lo hi sl Q I rx hs pl pu h
 obtain ⟨a, xs, rfl, hx, hw, q⟩ := h
 cases rx
 by_cases c : HT.sIx xs.length 0 lo = 0 /\ HT.sIx xs.length xs.length hi = xs.length
 ·obtain ⟨its, r, ht, hz⟩ := I.tuple hx
  have hlen : its.toArray.size = xs.length := by rw [List.size_toArray]; exact r.length.symm
  have ec : cE xs lo hi = xs := by unfold cE; rw [c.1, c.2]; simp
  obtain ⟨os, hos, hcs, hds⟩ := id hs
  refine ⟨"tuple", _, PyProof.Rows.slot_tuple_getitem.lookup, ht.typeIs, oJ (lo := ((HT.sIx its.toArray.size 0 lo : Nat) : Int)) (st := 1) (n := HT.sIx its.toArray.size its.toArray.size hi - HT.sIx its.toArray.size 0 lo) ht ⟨os, hos, hcs⟩ (fun q' => HT.sliceApplied_gen hs pl pu q') (fun _ => ⟨.ref a, H, I, rfl, hw ec⟩) ?_ ?_⟩
  ·rw [HT.pick_gen, hlen]
   refine ⟨.ref s.heap.objs.size, _, I.laid (t' := s.toks) (o := .tup (cE xs lo hi)) (fun b ob q => Heap.get?_push_of_some _ q) (Nat.le_refl _) ?_, rfl, q _ (I.hok.fresh (Nat.le_refl _))⟩
   exact ⟨Nat.le_trans (eU xs lo hi) hz, _, (r.drop (HT.sIx xs.length 0 lo)).take (HT.sIx xs.length xs.length hi - HT.sIx xs.length 0 lo), IsTup.new _ _, NoD.new _ rfl⟩
  ·rw [HT.pick_gen, List.size_toArray, List.length_take, List.length_drop]
   have : its.toArray.toList.length = xs.length := by simpa using hlen
   omega
 ·exact vT pins s σ H (.ref a) (.ref a) vl vu lo hi sl Q I rfl hs pl pu ⟨a, xs, rfl, hx, c, q⟩
end
section
variable {prog : Program} {w : World} {A : Around} {E : Value -> Shared -> Prop} {s : Shared}
end
section
variable {X : Cx}
end
section
variable {X : Cx} {pins : List (Addr × Obj)} {s : Shared} {σ : St} {H : Hp} {a : Addr} {kvs : List (Str × Addr)}
end
section
variable {prog : Program} {w : World} {A : Around} {E : Value -> Shared -> Prop} {s : Shared}
end
section
variable {X : Cx}
end
section
variable {X : Cx}
theorem ou (hu : X.A.units < cLine) : OpR X (compareOp .Eq) (fun x y H Q => ∃ (l b : Addr) (xs : List V), x = .ref l /\ y = .ref b /\ SqL X.K H l xs /\ SqL X.K H b [] /\ Q (.bl xs.isEmpty) H) := by
 intro pins s σ H x y v u Q I rx ry h
 obtain ⟨l, b, xs, rfl, rfl, hl, hb, q⟩ := h
 cases rx
 cases ry
 obtain ⟨its, r1, p1, _⟩ := I.list hl
 obtain ⟨its2, r2, p2, _⟩ := I.list hb
 have l1 := r1.length
 have l2 := r2.length
 cases xs with
 | nil =>
  refine SeqAt.RcAt.lists (e := fun _ => true) p1.isList p2.isList (by simp; omega) hu (fun j h1 h2 => ?_) X.prog X.w X.xe _ ?_
  ·have : j < its.length := by simpa using h1
   simp at l1; omega
  ·have e : ((List.range its.toArray.size).all fun _ => true) = true := by simp
   rw [e]
   exact ⟨.bl true, H, I, rfl, q⟩
 | cons x xs =>
  refine SeqAt.RcAt.lists_lengths p1.isList p2.isList ?_ hu X.prog X.w X.xe _ ⟨.bl false, H, I, rfl, q⟩
  rw [List.length_cons] at l1
  rw [List.length_nil] at l2
  rw [List.size_toArray, List.size_toArray, bne_iff_ne]
  omega
end
section
variable {prog : Program} {w : World} {A : Around} {E : Value -> Shared -> Prop} {s : Shared}
end
section
variable {X : Cx}
end
section
variable {X : Cx}
end
section
variable {X : Cx}
end
section
variable {prog : Program} {w : World} {A : Around} {E : Value -> Shared -> Prop}
end
section
variable {X : Cx} {pos : Pos}
end
end L2
namespace KB
open PySem L2
abbrev Pr := Str × Int
def ls (p q : Pr) : Prop := p.1.cps.toList < q.1.cps.toList
def tm : List Pr -> Str -> Int
 | [], _ => 0
 | p :: ps, x => if p.1 = x then p.2 else tm ps x
def eB : List Pr -> Str -> Int
 | [], _ => 0
 | p :: ps, x => (if p.1 = x then p.2 else 0) + eB ps x
structure aR (ps : List Pr) : Prop where
 pw : ps.Pairwise ls
 ge : ∀ p ∈ ps, 1 <= p.2
theorem lG (a : List Nat) : ¬ a < a := fun h => List.lt_irrefl a h
theorem tJ {a b : Str} (h : a.cps.toList = b.cps.toList) : a = b := by
 cases a
 cases b
 congr 1
 exact Array.ext' h
theorem sX {a b : List Nat} (h : ¬ a < b) (h2 : a ≠ b) : b < a := by
 by_cases h3 : b < a
 ·exact h3
 ·exact absurd (List.le_antisymm (List.not_lt.mp h3) (List.not_lt.mp h)) h2
theorem bN : ∀ {ps : List Pr} {x : Str}, (∀ p ∈ ps, p.1 ≠ x) -> tm ps x = 0
 | [], _, _ => rfl
 | p :: ps, x, h => by
  show (if p.1 = x then p.2 else tm ps x) = 0
  rw [if_neg (h p List.mem_cons_self)]
  exact bN fun q hq => h q (List.mem_cons_of_mem _ hq)
theorem bI : ∀ {ps : List Pr}, (ps.map (·.1)).Nodup -> ∀ {p : Pr}, p ∈ ps -> tm ps p.1 = p.2
 | [], _, _, h => nomatch h
 | q :: ps, nd, p, h => by
  rw [List.map_cons, List.nodup_cons] at nd
  show (if q.1 = p.1 then q.2 else tm ps p.1) = p.2
  rcases List.mem_cons.mp h with rfl | h
  ·rw [if_pos rfl]
  ·rw [if_neg (fun e : q.1 = p.1 => nd.1 (by rw [e]; exact List.mem_map_of_mem h))]
   exact bI nd.2 h
theorem cS {ps : List Pr} {x : Str} : tm ps x ≠ 0 -> ∃ p ∈ ps, p.1 = x := fun h => by
 by_cases hx : ∃ p ∈ ps, p.1 = x
 ·exact hx
 ·exact absurd (bN fun p hp e => hx ⟨p, hp, e⟩) h
theorem aD {ps : List Pr} (h : ps.Pairwise ls) : (ps.map (·.1)).Nodup := by
 rw [List.Nodup, List.pairwise_map]
 exact h.imp fun {a b} hab e => by
  have hab' : a.1.cps.toList < b.1.cps.toList := hab
  rw [e] at hab'
  exact lG _ hab'
theorem uy {ps qs : List Pr} (nd : (ps.map (·.1)).Nodup) (h : ps.Perm qs) (x : Str) : tm ps x = tm qs x := by
 have nd' : (qs.map (·.1)).Nodup := (h.map _).nodup_iff.mp nd
 by_cases hx : ∃ p ∈ ps, p.1 = x
 ·obtain ⟨p, hp, rfl⟩ := hx
  rw [bI nd hp, bI nd' (h.mem_iff.mp hp)]
 ·rw [bN fun p hp e => hx ⟨p, hp, e⟩, bN fun p hp e => hx ⟨p, h.mem_iff.mpr hp, e⟩]
theorem kt {ps : List Pr} (nd : (ps.map (·.1)).Nodup) (f : Pr -> Bool) : ((ps.filter f).map (·.1)).Nodup := (List.filter_sublist.map _).nodup nd
theorem jC {ps : List Pr} (nd : (ps.map (·.1)).Nodup) (x : Str) : tm (ps.filter fun p => decide (0 < p.2)) x = if 0 < tm ps x then tm ps x else 0 := by
 by_cases hx : ∃ p ∈ ps, p.1 = x
 ·obtain ⟨p, hp, rfl⟩ := hx
  rw [bI nd hp]
  by_cases h0 : 0 < p.2
  ·rw [if_pos h0, bI (kt nd _) (List.mem_filter.mpr ⟨hp, decide_eq_true h0⟩)]
  ·rw [if_neg h0]
   refine bN fun q hq e => ?_
   obtain ⟨h1, h2⟩ := List.mem_filter.mp hq
   have e2 : q.2 = p.2 := by rw [<- bI nd h1, <- bI nd hp, e]
   exact h0 (e2 ▸ of_decide_eq_true h2)
 ·have h1 : tm ps x = 0 := bN fun p hp e => hx ⟨p, hp, e⟩
  rw [h1, if_neg (Int.lt_irrefl 0)]
  exact bN fun p hp e => hx ⟨p, (List.mem_filter.mp hp).1, e⟩
theorem gG : ∀ {ps qs : List Pr}, aR ps -> aR qs -> (∀ x, tm ps x = tm qs x) -> ps = qs
 | [], [], _, _, _ => rfl
 | [], q :: qs, _, hq, h => by
  have e := h q.1
  have : tm (q :: qs) q.1 = q.2 := by show (if q.1 = q.1 then q.2 else _) = q.2; rw [if_pos rfl]
  rw [this] at e
  have := hq.ge q List.mem_cons_self
  have e' : (0 : Int) = q.2 := e
  omega
 | p :: ps, [], hp, _, h => by
  have e := h p.1
  have : tm (p :: ps) p.1 = p.2 := by show (if p.1 = p.1 then p.2 else _) = p.2; rw [if_pos rfl]
  rw [this] at e
  have := hp.ge p List.mem_cons_self
  have e' : p.2 = (0 : Int) := e
  omega
 | p :: ps, q :: qs, hp, hq, h => by
  have pp := List.pairwise_cons.mp hp.pw
  have qq := List.pairwise_cons.mp hq.pw
  have hp' : aR ps := ⟨pp.2, fun x hx => hp.ge x (List.mem_cons_of_mem _ hx)⟩
  have hq' : aR qs := ⟨qq.2, fun x hx => hq.ge x (List.mem_cons_of_mem _ hx)⟩
  have self : ∀ (a : Pr) (l : List Pr), tm (a :: l) a.1 = a.2 := fun a l => by show (if a.1 = a.1 then a.2 else _) = a.2; rw [if_pos rfl]
  have less : ∀ (a b : Pr) (l : List Pr), ls a b -> (∀ x ∈ l, ls b x) -> tm (b :: l) a.1 = 0 := fun a b l hab hl => bN fun x hx e => by
   have : ls a x := by
    rcases List.mem_cons.mp hx with rfl | hx
    ·exact hab
    ·exact List.lt_trans (show a.1.cps.toList < b.1.cps.toList from hab) (hl x hx)
   have h2 : a.1.cps.toList < x.1.cps.toList := this
   rw [e] at h2
   exact lG _ h2
  have e1 : p.1 = q.1 := by
   apply tJ
   by_cases h1 : p.1.cps.toList < q.1.cps.toList
   ·have := h p.1
    rw [self, less p q qs h1 qq.1] at this
    have h2 := hp.ge p List.mem_cons_self
    omega
   ·by_cases h3 : p.1.cps.toList = q.1.cps.toList
    ·exact h3
    ·have h4 : ls q p := sX h1 h3
     have := h q.1
     rw [self, less q p ps h4 pp.1] at this
     have h2 := hq.ge q List.mem_cons_self
     omega
  have e2 : p.2 = q.2 := by
   have := h p.1
   rw [self] at this
   rw [e1, self] at this
   exact this
  have e3 : p = q := by
   cases p; cases q
   simp only at e1 e2
   rw [e1, e2]
  subst e3
  congr 1
  refine gG hp' hq' fun x => ?_
  by_cases hx : p.1 = x
  ·subst hx
   have z : ∀ (l : List Pr), (∀ y ∈ l, ls p y) -> tm l p.1 = 0 := fun l hl => bN fun y hy e => by
    have h2 : p.1.cps.toList < y.1.cps.toList := hl y hy
    rw [e] at h2
    exact lG _ h2
   rw [z ps pp.1, z qs qq.1]
  ·have := h x
   have u : ∀ l : List Pr, tm (p :: l) x = tm l x := fun l => by show (if p.1 = x then p.2 else tm l x) = tm l x; rw [if_neg hx]
   rwa [u, u] at this
theorem gP (ps qs : List Pr) (x : Str) : eB (ps ++ qs) x = eB ps x + eB qs x := by
 induction ps with
 | nil => show eB qs x = 0 + eB qs x; omega
 | cons p ps ih =>
  show (if p.1 = x then p.2 else 0) + eB (ps ++ qs) x = (if p.1 = x then p.2 else 0) + eB ps x + eB qs x
  rw [ih]; omega
theorem jv : ∀ {ps : List Pr} {x : Str}, (∀ p ∈ ps, p.1 ≠ x) -> eB ps x = 0
 | [], _, _ => rfl
 | p :: ps, x, h => by
  show (if p.1 = x then p.2 else 0) + eB ps x = 0
  rw [if_neg (h p List.mem_cons_self), jv fun q hq => h q (List.mem_cons_of_mem _ hq)]
  rfl
theorem iu : ∀ {ps : List Pr}, (ps.map (·.1)).Nodup -> ∀ x, eB ps x = tm ps x
 | [], _, _ => rfl
 | p :: ps, nd, x => by
  rw [List.map_cons, List.nodup_cons] at nd
  show (if p.1 = x then p.2 else 0) + eB ps x = if p.1 = x then p.2 else tm ps x
  by_cases h : p.1 = x
  ·rw [if_pos h, if_pos h, jv (x := x) fun q hq e => nd.1 (h ▸ e ▸ List.mem_map_of_mem hq)]
   omega
  ·rw [if_neg h, if_neg h, iu nd.2 x]
   omega
def fG (kvs : List Pr) (x : Str) (n : Int) : List Pr := if (kvs.any fun p => decide (p.1 = x)) = true then kvs.map (fun p => if p.1 = x then (p.1, n) else p) else kvs ++ [(x, n)]
theorem nY {ps : List Pr} {x y : Str} {n : Int} (h : ∀ p ∈ ps, p.1 ≠ y) : tm (ps ++ [(x, n)]) y = if x = y then n else 0 := by
 induction ps with
 | nil => rfl
 | cons p ps ih =>
  show (if p.1 = y then p.2 else tm (ps ++ [(x, n)]) y) = _
  rw [if_neg (h p List.mem_cons_self), ih fun q hq => h q (List.mem_cons_of_mem _ hq)]
theorem kg {ps : List Pr} {x y : Str} {n : Int} (h : x ≠ y) : tm (ps ++ [(x, n)]) y = tm ps y := by
 induction ps with
 | nil => show (if x = y then n else 0) = 0; rw [if_neg h]
 | cons p ps ih =>
  show (if p.1 = y then p.2 else tm (ps ++ [(x, n)]) y) = if p.1 = y then p.2 else tm ps y
  rw [ih]
theorem lA {ps : List Pr} {x y : Str} {n : Int} (h : x ≠ y) : tm (ps.map fun p => if p.1 = x then (p.1, n) else p) y = tm ps y := by
 induction ps with
 | nil => rfl
 | cons p ps ih =>
  rw [List.map_cons]
  by_cases hp : p.1 = x
  ·rw [if_pos hp]
   show (if p.1 = y then n else tm _ y) = if p.1 = y then p.2 else tm ps y
   rw [if_neg (fun e => h (hp.symm.trans e)), if_neg (fun e => h (hp.symm.trans e)), ih]
  ·rw [if_neg hp]
   show (if p.1 = y then p.2 else tm _ y) = if p.1 = y then p.2 else tm ps y
   rw [ih]
theorem mS {ps : List Pr} {x : Str} {n : Int} (h : ∃ p ∈ ps, p.1 = x) : tm (ps.map fun p => if p.1 = x then (p.1, n) else p) x = n := by
 induction ps with
 | nil => obtain ⟨p, hp, _⟩ := h; nomatch hp
 | cons p ps ih =>
  rw [List.map_cons]
  by_cases hp : p.1 = x
  ·rw [if_pos hp]
   show (if p.1 = x then n else _) = n
   rw [if_pos hp]
  ·rw [if_neg hp]
   show (if p.1 = x then p.2 else tm _ x) = n
   rw [if_neg hp]
   refine ih ?_
   obtain ⟨q, hq, e⟩ := h
   rcases List.mem_cons.mp hq with rfl | hq
   ·exact absurd e hp
   ·exact ⟨q, hq, e⟩
theorem tF (kvs : List Pr) (x : Str) (n : Int) (y : Str) : tm (fG kvs x n) y = if x = y then n else tm kvs y := by
 unfold fG
 split
 ·rename_i h
  rw [List.any_eq_true] at h
  obtain ⟨p, hp, e⟩ := h
  by_cases hy : x = y
  ·subst hy; rw [if_pos rfl, mS ⟨p, hp, of_decide_eq_true e⟩]
  ·rw [if_neg hy, lA hy]
 ·rename_i h
  have no : ∀ p ∈ kvs, p.1 ≠ x := fun p hp e => h (List.any_eq_true.mpr ⟨p, hp, decide_eq_true e⟩)
  by_cases hy : x = y
  ·subst hy; rw [nY no, if_pos rfl, if_pos rfl]
  ·rw [if_neg hy, kg hy]
theorem fA {ps qs : List Pr} (pw : ps.Pairwise ls) (h : ps.Perm qs) (x : Str) : tm ps x = tm qs x := uy (aD pw) h x
theorem mX (ps : List Pr) (n : Int) (x : Str) : tm (ps.map fun p => (p.1, p.2 * n)) x = tm ps x * n := by
 induction ps with
 | nil => show (0 : Int) = 0 * n; rw [Int.zero_mul]
 | cons p ps ih =>
  show (if p.1 = x then p.2 * n else tm _ x) = (if p.1 = x then p.2 else tm ps x) * n
  by_cases h : p.1 = x
  ·rw [if_pos h, if_pos h]
  ·rw [if_neg h, if_neg h, ih]
theorem aR.scale {ps : List Pr} {n : Int} (h : aR ps) (hn : 1 <= n) : aR (ps.map fun p => (p.1, p.2 * n)) := by
 refine ⟨List.pairwise_map.mpr (h.pw.imp fun h => h), fun p hp => ?_⟩
 obtain ⟨q, hq, rfl⟩ := List.mem_map.mp hp
 have h1 := h.ge q hq
 have h2 : 1 * 1 <= q.2 * n := Int.mul_le_mul h1 hn (by decide) (by omega)
 show 1 <= q.2 * n
 omega
theorem bx {ps : List Pr} (h : ∀ p ∈ ps, 0 <= p.2) (x : Str) : 0 <= tm ps x := by
 induction ps with
 | nil => exact Int.le_refl 0
 | cons p ps ih =>
  show 0 <= if p.1 = x then p.2 else tm ps x
  split
  ·exact h p List.mem_cons_self
  ·exact ih fun q hq => h q (List.mem_cons_of_mem _ hq)
def W (num : Str -> Int) : List Pr -> Int
 | [] => 0
 | p :: ps => p.2 * num p.1 + W num ps
theorem ur (num : Str -> Int) (n : Int) (ps : List Pr) : W num (ps.map fun p => (p.1, p.2 * n)) = n * W num ps := by
 induction ps with
 | nil => show (0 : Int) = n * 0; rw [Int.mul_zero]
 | cons p ps ih =>
  show p.2 * n * num p.1 + W num (ps.map fun p => (p.1, p.2 * n)) = n * (p.2 * num p.1 + W num ps)
  rw [ih, Int.mul_add, <- Int.mul_assoc, Int.mul_comm n p.2]
def WU (num f : Str -> Int) : List Str -> Int
 | [] => 0
 | x :: xs => f x * num x + WU num f xs
theorem eI {num f g : Str -> Int} : ∀ {U : List Str}, (∀ x ∈ U, f x = g x) -> WU num f U = WU num g U
 | [], _ => rfl
 | x :: U, h => by
  show f x * num x + WU num f U = g x * num x + WU num g U
  rw [h x List.mem_cons_self, eI fun y hy => h y (List.mem_cons_of_mem _ hy)]
theorem sJ (num f g : Str -> Int) (U : List Str) : WU num (fun x => f x + g x) U = WU num f U + WU num g U := by
 induction U with
 | nil => rfl
 | cons x U ih =>
  show (f x + g x) * num x + WU num (fun x => f x + g x) U = f x * num x + WU num f U + (g x * num x + WU num g U)
  rw [ih, Int.add_mul]; omega
theorem pL (num : Str -> Int) (U : List Str) : WU num (fun _ => 0) U = 0 := by
 induction U with
 | nil => rfl
 | cons x U ih => show 0 * num x + WU num (fun _ => 0) U = 0; rw [ih, Int.zero_mul]; rfl
theorem sh (num : Str -> Int) (y : Str) (n : Int) : ∀ {U : List Str}, U.Nodup -> y ∈ U -> WU num (fun x => if y = x then n else 0) U = n * num y
 | [], _, h => nomatch h
 | x :: U, nd, h => by
  rw [List.nodup_cons] at nd
  show (if y = x then n else 0) * num x + WU num (fun x => if y = x then n else 0) U = n * num y
  by_cases e : y = x
  ·subst e
   have z : WU num (fun x => if y = x then n else 0) U = WU num (fun _ => 0) U := eI fun x hx => if_neg fun e : y = x => nd.1 (by rw [e]; exact hx)
   rw [if_pos rfl, z, pL]; omega
  ·rw [if_neg e, sh num y n nd.2 ((List.mem_cons.mp h).resolve_left e)]
   omega
theorem im (num : Str -> Int) {U : List Str} (nd : U.Nodup) : ∀ {ps : List Pr}, (ps.map (·.1)).Nodup -> (∀ p ∈ ps, p.1 ∈ U) -> W num ps = WU num (tm ps) U
 | [], _, _ => by
  have : WU num (tm []) U = WU num (fun _ => 0) U := eI fun x _ => rfl
  rw [this, pL]; rfl
 | p :: ps, ndp, h => by
  rw [List.map_cons, List.nodup_cons] at ndp
  have e : WU num (tm (p :: ps)) U = WU num (fun x => (if p.1 = x then p.2 else 0) + tm ps x) U := eI fun x _ => by
   show (if p.1 = x then p.2 else tm ps x) = (if p.1 = x then p.2 else 0) + tm ps x
   by_cases hx : p.1 = x
   ·rw [if_pos hx, if_pos hx, bN (x := x) fun q hq e => ndp.1 (hx ▸ e ▸ List.mem_map_of_mem hq)]; omega
   ·rw [if_neg hx, if_neg hx]; omega
  rw [e, sJ, sh num p.1 p.2 nd (h p List.mem_cons_self), <- im num nd ndp.2 fun q hq => h q (List.mem_cons_of_mem _ hq)]
  rfl
theorem wH (num : Str -> Int) {qs ps rs : List Pr} (Cq : aR qs) (Cp : aR ps) (Cr : aR rs) (h : ∀ x, tm qs x = tm ps x + tm rs x) : W num qs = W num ps + W num rs := by
 have nq := aD Cq.pw
 have inq : ∀ x, 1 <= tm qs x -> x ∈ qs.map (·.1) := fun x hx => by
  obtain ⟨p, hp, e⟩ := cS (ps := qs) (x := x) (by omega)
  exact List.mem_map.mpr ⟨p, hp, e⟩
 have np : ∀ x, 0 <= tm ps x := bx fun p hp => by have := Cp.ge p hp; omega
 have nr : ∀ x, 0 <= tm rs x := bx fun p hp => by have := Cr.ge p hp; omega
 have mp : ∀ p ∈ ps, p.1 ∈ qs.map (·.1) := fun p hp => inq _ (by
  have := Cp.ge p hp
  rw [h, bI (aD Cp.pw) hp]
  have := nr p.1
  omega)
 have mr : ∀ p ∈ rs, p.1 ∈ qs.map (·.1) := fun p hp => inq _ (by
  have := Cr.ge p hp
  rw [h, bI (aD Cr.pw) hp]
  have := np p.1
  omega)
 rw [im num nq nq (fun p hp => List.mem_map_of_mem hp), im num nq (aD Cp.pw) mp, im num nq (aD Cr.pw) mr, <- sJ]
 exact eI fun x _ => h x
structure Pl where
 c : Int
 ps : List Pr
abbrev Pls := Str -> Pl
def dJ (pl : Pls) : List Pr -> Int
 | [] => 0
 | p :: ps => p.2 * (pl p.1).c + dJ pl ps
def cK (pl : Pls) : List Pr -> Str -> Int
 | [], _ => 0
 | p :: ps, x => p.2 * tm (pl p.1).ps x + cK pl ps x
def nW (pl : Pls) (num : Str -> Int) : List Pr -> Int
 | [] => 0
 | p :: ps => p.2 * W num (pl p.1).ps + nW pl num ps
theorem jG (pl : Pls) (ps : List Pr) (p : Pr) : dJ pl (ps ++ [p]) = dJ pl ps + p.2 * (pl p.1).c := by
 induction ps with
 | nil => show p.2 * (pl p.1).c + 0 = 0 + p.2 * (pl p.1).c; omega
 | cons q ps ih => show q.2 * (pl q.1).c + dJ pl (ps ++ [p]) = q.2 * (pl q.1).c + dJ pl ps + p.2 * (pl p.1).c; rw [ih]; omega
theorem jt (pl : Pls) (ps : List Pr) (p : Pr) (x : Str) : cK pl (ps ++ [p]) x = cK pl ps x + p.2 * tm (pl p.1).ps x := by
 induction ps with
 | nil => show p.2 * tm (pl p.1).ps x + 0 = 0 + p.2 * tm (pl p.1).ps x; omega
 | cons q ps ih => show q.2 * tm (pl q.1).ps x + cK pl (ps ++ [p]) x = q.2 * tm (pl q.1).ps x + cK pl ps x + p.2 * tm (pl p.1).ps x; rw [ih]; omega
theorem qD (pl : Pls) (num : Str -> Int) (ps : List Pr) (p : Pr) : nW pl num (ps ++ [p]) = nW pl num ps + p.2 * W num (pl p.1).ps := by
 induction ps with
 | nil => show p.2 * W num (pl p.1).ps + 0 = 0 + p.2 * W num (pl p.1).ps; omega
 | cons q ps ih => show q.2 * W num (pl q.1).ps + nW pl num (ps ++ [p]) = q.2 * W num (pl q.1).ps + nW pl num ps + p.2 * W num (pl p.1).ps; rw [ih]; omega
theorem Rep.tup_inv {H : Hp} {ds : List Dv} {v : V} (h : Rep H (.tup ds) v) : ∃ a vs, v = .ref a /\ H a = some (.tup vs) /\ Reps H ds vs := by simpa only [Rep] using h
theorem Reps.two {H : Hp} {d e : Dv} {vs : List V} (h : Reps H [d, e] vs) : ∃ x y, vs = [x, y] /\ Rep H d x /\ Rep H e y := by
 simp only [Reps] at h
 obtain ⟨x, r, rfl, h1, y, r2, rfl, h2, rfl⟩ := h
 exact ⟨x, y, rfl, h1, h2⟩
def dk (kvs : List (Str × Int)) : List (Key × V) := kvs.map fun p => (Sum.inr p.1, V.int p.2)
theorem nQ : ∀ {kvs : List (Str × Int)}, (kvs.map (·.1)).Nodup -> ∀ {i : Nat} {p : Str × Int}, kvs[i]? = some p -> cw (dk kvs) (Sum.inr p.1) = some (.int p.2)
 | [], _, i, p, e => by simp at e
 | x :: r, nd, i, p, e => by
  rw [List.map_cons, List.nodup_cons] at nd
  cases i with
  | zero =>
   have e' : x = p := by simpa using e
   subst e'
   exact dN (p := (Sum.inr x.1, V.int x.2)) rfl
  | succ i =>
   have hm : p ∈ r := List.mem_of_getElem? (show r[i]? = some p by simpa using e)
   have hne : ¬ (Sum.inr x.1 : Key) = Sum.inr p.1 := fun z => nd.1 (by injection z with z; rw [z]; exact List.mem_map_of_mem hm)
   exact (dL (p := (Sum.inr x.1, V.int x.2)) hne).trans (nQ nd.2 (i := i) (by simpa using e))
def aN (c : Int) (ps : List (Str × Int)) : Dv := .tup [.int c, .tup (ps.map fun p => .tup [.str p.1, .int p.2])]
def tkV (r : TK) : Str × Int := (r.2.1, match r.2.2 with | [.int n] => n | _ => 0)
theorem cg {H : Hp} : ∀ {rs : List TK}, (∀ r ∈ rs, H r.1 = some (.tup [.str (tkV r).1, .int (tkV r).2])) -> Reps H ((rs.map tkV).map fun p => Dv.tup [.str p.1, .int p.2]) (rs.map fun r => V.ref r.1)
 | [], _ => by simp [Reps]
 | r :: rs, h => by
  simp only [List.map_cons, Reps]
  refine ⟨_, _, rfl, ?_, cg fun x hx => h x (List.mem_cons_of_mem _ hx)⟩
  simp only [Rep, Reps]
  exact ⟨r.1, _, rfl, h r List.mem_cons_self, _, _, rfl, rfl, _, _, rfl, rfl, rfl⟩
theorem eW {k : Nat} {ix : List Nat} {i : Nat} {tt : TT} {te : TE} {σ : St} {x : V} {ys : List V} {H : Hp} {N : List V -> Hp -> Prop} (h : tt ((dl k ix σ).set i (some x)) H fun c H3 => if c = true then te ((dl k ix σ).set i (some x)) H3 fun y H4 => ys.length < sizeLine /\ N (ys ++ [y]) H4 else N ys H3) :
  eu k ix (ev i) tt te σ x ys H N := h
theorem pj {a b : Str} : ((Sum.inr a : Key) = Sum.inr b) ↔ a = b := ⟨fun h => by injection h, fun h => by rw [h]⟩
theorem kF (kvs : List (Str × Int)) (x : Str) (n : Int) : dk (fG kvs x n) = cC (dk kvs) (Sum.inr x) (.int n) := by
 unfold fG cC dk
 have e : ((kvs.map fun p => ((Sum.inr p.1 : Key), V.int p.2)).any fun kv => decide (kv.1 = Sum.inr x)) = kvs.any fun p => decide (p.1 = x) := by
  rw [List.any_map]
  congr 1
  funext p
  simp [Function.comp]
 rw [e]
 split
 ·rw [List.map_map, List.map_map]
  refine List.map_congr_left fun p _ => ?_
  simp only [Function.comp]
  by_cases h : p.1 = x
  ·rw [if_pos h, if_pos (pj.mpr h)]
  ·rw [if_neg h, if_neg (fun z => h (pj.mp z))]
 ·rw [List.map_append]
  rfl
theorem gM {kvs : List (Str × Int)} {x : Str} {n : Int} (nd : (kvs.map (·.1)).Nodup) : ((fG kvs x n).map (·.1)).Nodup := by
 unfold fG
 split
 ·have e : (kvs.map (fun p => if p.1 = x then (p.1, n) else p)).map (·.1) = kvs.map (·.1) := by
   rw [List.map_map]
   refine List.map_congr_left fun p _ => ?_
   simp only [Function.comp]
   split <;> rfl
  rw [e]; exact nd
 ·rename_i h
  rw [List.map_append, List.nodup_append]
  refine ⟨nd, by simp, fun a ha b hb => ?_⟩
  have hb' : b = x := by simpa using hb
  subst hb'
  intro e
  subst e
  obtain ⟨p, hp, e⟩ := List.mem_map.mp ha
  exact h (List.any_eq_true.mpr ⟨p, hp, decide_eq_true e⟩)
theorem iV (kvs : List (Str × Int)) (x : Str) (n : Int) : (fG kvs x n).length <= kvs.length + 1 := by
 unfold fG
 split
 ·rw [List.length_map]; omega
 ·rw [List.length_append]; simp
theorem iz {R : Str × Int -> Prop} {kvs : List (Str × Int)} {x : Str} {n : Int} (h : ∀ p ∈ kvs, R p) (hx : R (x, n)) : ∀ p ∈ fG kvs x n, R p := by
 intro p hp
 unfold fG at hp
 split at hp
 ·obtain ⟨q, hq, e⟩ := List.mem_map.mp hp
  by_cases z : q.1 = x
  ·rw [if_pos z] at e
   rw [<- e, z]; exact hx
  ·rw [if_neg z] at e
   rw [<- e]; exact h q hq
 ·rcases List.mem_append.mp hp with hp | hp
  ·exact h p hp
  ·rw [List.mem_singleton.mp hp]; exact hx
abbrev aV (ps : List Pr) : List Dv := ps.map fun p => .tup [.str p.1, .int p.2]
theorem bO {H : Hp} {ps : List Pr} {us : List V} (ru : Reps H (aV ps) us) {i : Nat} {x : V} (hx : us[i]? = some x) : ∃ p b, ps[i]? = some p /\ x = .ref b /\ H b = some (.tup [.str p.1, .int p.2]) := by
 obtain ⟨d, hd, Rd⟩ := ru.get hx
 rw [List.getElem?_map] at hd
 cases e : ps[i]? with
 | none => rw [e] at hd; cases hd
 | some p =>
  rw [e] at hd
  obtain rfl : Dv.tup [.str p.1, .int p.2] = d := Option.some.inj hd
  obtain ⟨b, zs, rfl, hb, rz⟩ := Rep.tup_inv Rd
  obtain ⟨y, z, rfl, Ry, Rz⟩ := Reps.two rz
  simp only [Rep] at Ry Rz
  subst Ry Rz
  exact ⟨p, b, rfl, rfl, hb⟩
theorem bn {H : Hp} {c : Int} {ps : List Pr} {v : V} (R : Rep H (aN c ps) v) : ∃ a b us, v = .ref a /\ H a = some (.tup [.int c, .ref b]) /\ H b = some (.tup us) /\ Reps H (aV ps) us /\ us.length = ps.length := by
 obtain ⟨a, tv, rfl, ha, rt⟩ := Rep.tup_inv R
 obtain ⟨x, y, rfl, R0, R1⟩ := Reps.two rt
 simp only [Rep] at R0
 subst R0
 obtain ⟨b, us, rfl, hb, ru⟩ := Rep.tup_inv R1
 have := ru.length
 rw [List.length_map] at this
 exact ⟨a, b, us, rfl, ha, hb, ru, this⟩
theorem dc {H : Hp} {c : Int} {ps : List Pr} {a b : Addr} {us : List V} (ha : H a = some (.tup [.int c, .ref b])) (hb : H b = some (.tup us)) (ru : Reps H (aV ps) us) : Rep H (aN c ps) (.ref a) := by
 simp only [aN, Rep, Reps]
 exact ⟨a, _, rfl, ha, _, _, rfl, rfl, _, _, rfl, ⟨b, us, rfl, hb, ru⟩, rfl⟩
theorem iY : ∀ (kvs : List Pr) (x : Str), (cw (dk kvs) (Sum.inr x)).getD (.int 0) = V.int (tm kvs x)
 | [], x => rfl
 | p :: r, x => by
  by_cases h : p.1 = x
  ·have e1 : cw (dk (p :: r)) (Sum.inr x) = some (.int p.2) := dN (p := (Sum.inr p.1, V.int p.2)) (by rw [h])
   rw [e1]
   show V.int p.2 = V.int (if p.1 = x then p.2 else tm r x)
   rw [if_pos h]
  ·have e1 : cw (dk (p :: r)) (Sum.inr x) = cw (dk r) (Sum.inr x) := dL (p := (Sum.inr p.1, V.int p.2)) (fun z => h (by injection z))
   rw [e1, iY r x]
   show _ = V.int (if p.1 = x then p.2 else tm r x)
   rw [if_neg h]
theorem jW {ps : List Pr} {i : Nat} {p : Pr} (h : ps[i]? = some p) (x : Str) : eB (ps.take (i + 1)) x = eB (ps.take i) x + if p.1 = x then p.2 else 0 := by
 rw [List.take_add_one, h, gP]
 show _ + ((if p.1 = x then p.2 else 0) + 0) = _
 omega
theorem eqI {i j : Int} (h : decide (V.int i = V.int j) = true) : i = j := by
 have := of_decide_eq_true h
 injection this
theorem neI {i j : Int} (h : ¬ decide (V.int i = V.int j) = true) : i ≠ j := fun e => h (by subst e; exact decide_eq_true rfl)
theorem fU {H : Hp} {c : Int} {p q : Addr} (hp : H p = some (.tup [])) (hq : H q = some (.tup [.int c, .ref p])) : Rep H (aN c []) (.ref q) := by
 simp only [aN, Rep, Reps, List.map_nil]
 exact ⟨q, _, rfl, hq, _, _, rfl, rfl, _, _, rfl, ⟨p, _, rfl, hp, rfl⟩, rfl⟩
theorem ii {H : Hp} {c n : Int} {x : Str} {p q r : Addr} (hp : H p = some (.tup [.str x, .int n])) (hq : H q = some (.tup [.ref p])) (hr : H r = some (.tup [.int c, .ref q])) : Rep H (aN c [(x, n)]) (.ref r) := by
 simp only [aN, Rep, Reps, List.map_nil, List.map_cons]
 exact ⟨r, _, rfl, hr, _, _, rfl, rfl, _, _, rfl, ⟨q, _, rfl, hq, _, _, rfl, ⟨p, _, rfl, hp, _, _, rfl, rfl, _, _, rfl, rfl, rfl⟩, rfl⟩, rfl⟩
theorem z2 : 2 <= sizeLine := by rw [sizeLine_eq]; decide
theorem z1 : 1 <= sizeLine := by rw [sizeLine_eq]; decide
theorem cX {H : Hp} {ps : List Pr} {us : List V} (ru : Reps H (aV ps) us) (nd : (ps.map (·.1)).Nodup) : ∃ qs : List (Addr × Key × V), us = qs.map (fun p => V.ref p.1) /\ (∀ p ∈ qs, H p.1 = some (.tup [kV p.2.1, p.2.2])) /\ (qs.map (·.2.1)).Nodup /\ qs.map (·.2) = dk ps := by
 have main : ∀ (ps : List Pr) (us : List V), Reps H (aV ps) us -> ∃ qs : List (Addr × Key × V), us = qs.map (fun p => V.ref p.1) /\ (∀ p ∈ qs, H p.1 = some (.tup [kV p.2.1, p.2.2])) /\ qs.map (·.2) = dk ps := by
  intro ps
  induction ps with
  | nil => intro us r; simp only [aV, List.map_nil, Reps] at r; subst r; exact ⟨[], rfl, by simp, rfl⟩
  | cons p ps ih =>
   intro us r
   simp only [aV, List.map_cons, Reps] at r
   obtain ⟨v, rest, rfl, R, rr⟩ := r
   obtain ⟨qs, rfl, h1, h2⟩ := ih rest rr
   obtain ⟨b, zs, rfl, hb, rz⟩ := Rep.tup_inv R
   obtain ⟨y, z, rfl, Ry, Rz⟩ := Reps.two rz
   simp only [Rep] at Ry Rz
   subst Ry Rz
   refine ⟨(b, Sum.inr p.1, .int p.2) :: qs, rfl, fun x hx => ?_, by rw [List.map_cons, h2]; rfl⟩
   rcases List.mem_cons.mp hx with rfl | hx
   ·exact hb
   ·exact h1 x hx
 obtain ⟨qs, e1, h1, e2⟩ := main ps us ru
 refine ⟨qs, e1, h1, ?_, e2⟩
 have e3 : qs.map (·.2.1) = (ps.map (·.1)).map Sum.inr := by
  have := congrArg (List.map Prod.fst) e2
  unfold dk at this
  rw [List.map_map, List.map_map] at this
  rw [List.map_map]
  exact this
 rw [e3]
 rw [List.Nodup, List.pairwise_map]
 exact nd.imp fun h e => h (by injection e)
theorem z3 : 3 <= sizeLine := by rw [sizeLine_eq]; decide
theorem rp {kvs : List Pr} {x : Str} {n : Int} (h : x ∉ kvs.map (·.1)) : fG kvs x n = kvs ++ [(x, n)] := by
 unfold fG
 rw [if_neg]
 intro e
 rw [List.any_eq_true] at e
 obtain ⟨p, hp, e⟩ := e
 exact h (List.mem_map.mpr ⟨p, hp, of_decide_eq_true e⟩)
section
variable {K : PySem.W.Frag}
end
theorem tnx {D : fq} {σ : St} {H : Hp} (h : D.nx σ H) : vt D σ H := h
theorem uJ {ns : List Int} {k : Int} (h0 : 0 <= k) (h : k < (ns.length : Int)) : ∃ v : Int, atI (ns.map V.int) k = some (.int v) := by
 have hk : k.toNat < ns.length := by omega
 have q : atI (ns.map V.int) ((k.toNat : Nat) : Int) = some (.int ns[k.toNat]) := ah (by rw [List.getElem?_map, List.getElem?_eq_getElem hk] <;> rfl)
 have ek : k = ((k.toNat : Nat) : Int) := by omega
 rw [<- ek] at q
 exact ⟨_, q⟩
theorem pk (n : Nat) : (0 : Int) < 10 ^ n := Int.pow_pos (by decide)
theorem mod_lt {a : Int} (n : Int) (h : 0 < n) : 0 <= a % n /\ a % n < n := ⟨Int.emod_nonneg _ (by omega), Int.emod_lt_of_pos _ h⟩
def bq (a : Addr) (H H' : Hp) : Prop := ∀ g o, g ≠ a -> H g = some o -> H' g = some o
theorem bq.refl (a : Addr) (H : Hp) : bq a H H := fun _ _ _ e => e
theorem bq.trans {a : Addr} {H H1 H2 : Hp} (s : bq a H H1) (t : bq a H1 H2) : bq a H H2 := fun g o hg e => t g o hg (s g o hg e)
theorem ao.b {H H' : Hp} (a : Addr) (s : ao H H') : bq a H H' := fun g o _ e => s g o e
theorem bq.upd (H : Hp) (a : Addr) (o : HO) : bq a H (upd H a o) := fun g u hg e => by rw [aq hg]; exact e
def bG (H H' : Hp) : Prop := ∀ b zs, H b = some (.tup zs) -> H' b = some (.tup zs)
theorem ao.tups {H H' : Hp} (s : ao H H') : bG H H' := fun b zs e => s b _ e
theorem bG.refl (H : Hp) : bG H H := fun _ _ e => e
theorem bG.trans {H H1 H2 : Hp} (s : bG H H1) (t : bG H1 H2) : bG H H2 := fun b zs e => t b zs (s b zs e)
theorem bq.tups {a : Addr} {H H' : Hp} {xs : List V} (s : bq a H H') (h : H a = some (.lst xs)) : bG H H' := fun b zs e => s b _ (fun z => by rw [z, h] at e; cases e) e
theorem bq.tupsD {a : Addr} {H H' : Hp} {m : List (Key × V)} (s : bq a H H') (h : H a = some (.dK m)) : bG H H' := fun b zs e => s b _ (fun z => by rw [z, h] at e; cases e) e
theorem bU {H H' : Hp} : ∀ {ds : List Dv} {vs : List V}, (∀ d ∈ ds, ∀ v, Rep H d v -> Rep H' d v) -> Reps H ds vs -> Reps H' ds vs
 | [], vs, _, h => by simpa only [Reps] using h
 | d :: ds, vs, f, h => by
  simp only [Reps] at h ⊢
  obtain ⟨v, r, rfl, h1, h2⟩ := h
  exact ⟨v, r, rfl, f d List.mem_cons_self v h1, bU (fun e he => f e (List.mem_cons_of_mem _ he)) h2⟩
theorem bS {H H' : Hp} (t : bG H H') {n : Nat} {d : Dv} (h : L2.Pl n d) : ∀ {v : V}, Rep H d v -> Rep H' d v := by
 induction h with
 | int => intro v r; simpa only [Rep] using r
 | str => intro v r; simpa only [Rep] using r
 | non => intro v r; simpa only [Rep] using r
 | tup _ ih =>
  intro v r
  simp only [Rep] at r ⊢
  obtain ⟨a, vs, rfl, ha, rs⟩ := r
  exact ⟨a, vs, rfl, t _ _ ha, bU (fun d hd v r => ih d hd r) rs⟩
theorem bQ (c : Int) (ps : List Pr) : L2.Pl 3 (aN c ps) := .tup fun d hd => by
 rcases List.mem_cons.mp hd with rfl | hd
 ·exact .int
 ·rw [List.mem_singleton.mp hd]
  refine .tup fun e he => ?_
  obtain ⟨p, _, rfl⟩ := List.mem_map.mp he
  refine .tup fun g hg => ?_
  rcases List.mem_cons.mp hg with rfl | hg
  ·exact .str
  ·rw [List.mem_singleton.mp hg]; exact .int
theorem jy {c d : Int} {ps qs : List Pr} (h : aN c ps = aN d qs) : c = d /\ ps = qs := by
 unfold aN at h
 injection h with h
 injection h with h1 h2
 injection h2 with h2 _
 injection h1 with h1
 injection h2 with h2
 refine ⟨h1, ?_⟩
 induction ps generalizing qs with
 | nil => cases qs with
  | nil => rfl
  | cons q qs => cases h2
 | cons p ps ih => cases qs with
  | nil => cases h2
  | cons q qs =>
   rw [List.map_cons, List.map_cons] at h2
   injection h2 with h3 h4
   injection h3 with h3
   injection h3 with h5 h6
   injection h6 with h6 _
   injection h5 with h5
   injection h6 with h6
   rw [ih h4, show p = q from Prod.ext h5 h6]
theorem uH {c : TT} {tb : TS} {D : fq} {σ : St} {H : Hp} (Pv : Nat -> St -> Hp -> Prop) (m : Nat) (h0 : Pv m σ H)
  (hs : ∀ m σ H, Pv m σ H -> c σ H fun b H1 => if b = true then tb { D with nx := fun σ' H' => ∃ m', m' < m /\ Pv m' σ' H', ct := fun σ' H' => ∃ m', m' < m /\ Pv m' σ' H', bk := D.nx } σ H1 else D.nx σ H1)
  (mono : ∀ σ H Q Q', (∀ b H1, Q b H1 -> Q' b H1) -> c σ H Q -> c σ H Q') : tj c tb D σ H := by
 refine ⟨Pv, ⟨m, h0⟩, fun m σ H p => mono σ H _ _ (fun b H1 q => ?_) (hs m σ H p)⟩
 cases b with
 | true => exact ⟨_, fun σ' H' q' => q', q⟩
 | false => exact q
theorem oG {K : PySem.W.Frag} {i : Nat} : ∀ σ H (Q Q' : Bool -> Hp -> Prop), (∀ b H1, Q b H1 -> Q' b H1) -> (fun (σ : St) (H : Hp) (Q : Bool -> Hp -> Prop) => dB i σ H fun x H' => ∃ k, uQ K x H' k /\ Q k H') σ H Q -> (fun (σ : St) (H : Hp) (Q : Bool -> Hp -> Prop) => dB i σ H fun x H' => ∃ k, uQ K x H' k /\ Q k H') σ H Q' := by
 rintro σ H Q Q' h ⟨v, e, k, t, q⟩
 exact ⟨v, e, k, t, h _ _ q⟩
inductive Kd where
 | whole
 | place (c : Int) (ps : List Pr)
 | row (c : Int) (ps : List Pr) (k : Kd)
 | pair (k j : Kd)
def Kd.dv : Kd -> Dv
 | .whole => .tup [.str "whole"]
 | .place c ps => .tup [.str "place", aN c ps]
 | .row c ps k => .tup [.str "row", aN c ps, k.dv]
 | .pair k j => .tup [.str "pair", k.dv, j.dv]
def Kd.size : Kd -> Nat
 | .whole => 1
 | .place _ _ => 1
 | .row _ _ k => k.size + 1
 | .pair k j => k.size + j.size + 1
theorem Kd.size_pos : ∀ k : Kd, 1 <= k.size
 | .whole => Nat.le_refl _
 | .place _ _ => Nat.le_refl _
 | .row _ _ k => by show 1 <= k.size + 1; omega
 | .pair k j => by show 1 <= k.size + j.size + 1; omega
theorem Kd.pl : ∀ k : Kd, L2.Pl (k.size + 3) k.dv
 | .whole => .tup fun d hd => by rw [List.mem_singleton.mp hd]; exact .str
 | .place c ps => .tup fun d hd => by
  rcases List.mem_cons.mp hd with rfl | hd
  ·exact .str
  ·rw [List.mem_singleton.mp hd]; exact bQ c ps
 | .row c ps k => .tup fun d hd => by
  rcases List.mem_cons.mp hd with rfl | hd
  ·exact .str
  rcases List.mem_cons.mp hd with rfl | hd
  ·exact (bQ c ps).up (by show 3 <= k.size + 3; omega)
  ·rw [List.mem_singleton.mp hd]; exact k.pl
 | .pair k j => .tup fun d hd => by
  rcases List.mem_cons.mp hd with rfl | hd
  ·exact .str
  rcases List.mem_cons.mp hd with rfl | hd
  ·exact k.pl.up (by show k.size + 3 <= k.size + j.size + 3; omega)
  ·rw [List.mem_singleton.mp hd]; exact j.pl.up (by show j.size + 3 <= k.size + j.size + 3; omega)
def Kd.word : Kd -> Str
 | .whole => "whole"
 | .place _ _ => "place"
 | .row _ _ _ => "row"
 | .pair _ _ => "pair"
def Kd.kids : Kd -> List Kd
 | .row _ _ k => [k]
 | .pair k j => [k, j]
 | _ => []
def Kd.len? : Kd -> Option (Int × List Pr)
 | .place c ps => some (c, ps)
 | .row c ps _ => some (c, ps)
 | _ => none
def Kd.pts : Kd -> List Kd
 | .row c ps k => .row c ps k :: k.pts
 | .pair k j => .pair k j :: (k.pts ++ j.pts)
 | k => [k]
theorem Kd.pts_kids (k : Kd) : k.pts = k :: (k.kids.flatMap Kd.pts) := by
 cases k with
 | whole => rfl
 | place c ps => rfl
 | row c ps k => simp [Kd.pts, Kd.kids]
 | pair k j => simp [Kd.pts, Kd.kids]
theorem Kd.size_kids (k : Kd) : k.size = 1 + (k.kids.map Kd.size).sum := by
 cases k with
 | whole => rfl
 | place c ps => rfl
 | row c ps k => simp [Kd.size, Kd.kids]; omega
 | pair k j => simp [Kd.size, Kd.kids]; omega
theorem Kd.pts_len : ∀ k : Kd, k.pts.length = k.size
 | .whole => rfl
 | .place _ _ => rfl
 | .row c ps k => by show (k.pts.length) + 1 = k.size + 1; rw [k.pts_len]
 | .pair k j => by show (k.pts ++ j.pts).length + 1 = k.size + j.size + 1; rw [List.length_append, k.pts_len, j.pts_len]
def Kd.All (P : Int -> List Pr -> Prop) : Kd -> Prop
 | .whole => True
 | .place c ps => P c ps
 | .row c ps k => P c ps /\ k.All P
 | .pair k j => k.All P /\ j.All P
theorem Kd.tupS {H H' : Hp} (t : bG H H') {k : Kd} {v : V} (r : Rep H k.dv v) : Rep H' k.dv v := bS t k.pl r
theorem Kd.inv {H : Hp} {k : Kd} {v : V} (r : Rep H k.dv v) : ∃ a vs, v = .ref a /\ H a = some (.tup (.str k.word :: vs)) /\
  (match k with
   | .whole => vs = []
   | .place c ps => ∃ l, vs = [l] /\ Rep H (aN c ps) l
   | .row c ps j => ∃ l u, vs = [l, u] /\ Rep H (aN c ps) l /\ Rep H j.dv u
   | .pair i j => ∃ u w, vs = [u, w] /\ Rep H i.dv u /\ Rep H j.dv w) := by
 cases k with
 | whole =>
  simp only [Kd.dv, Rep, Reps] at r
  obtain ⟨a, vs, rfl, ha, x, r1, rfl, rfl, rfl⟩ := r
  exact ⟨a, [], rfl, ha, rfl⟩
 | place c ps =>
  rw [Kd.dv, Rep] at r
  obtain ⟨a, vs, rfl, ha, rs⟩ := r
  simp only [Reps] at rs
  obtain ⟨x, r1, rfl, hx, y, r2, rfl, hy, rfl⟩ := rs
  simp only [Rep] at hx
  subst hx
  exact ⟨a, _, rfl, ha, y, rfl, hy⟩
 | row c ps j =>
  rw [Kd.dv, Rep] at r
  obtain ⟨a, vs, rfl, ha, rs⟩ := r
  simp only [Reps] at rs
  obtain ⟨x, r1, rfl, hx, y, r2, rfl, hy, z, r3, rfl, hz, rfl⟩ := rs
  simp only [Rep] at hx
  subst hx
  exact ⟨a, _, rfl, ha, y, z, rfl, hy, hz⟩
 | pair i j =>
  rw [Kd.dv, Rep] at r
  obtain ⟨a, vs, rfl, ha, rs⟩ := r
  simp only [Reps] at rs
  obtain ⟨x, r1, rfl, hx, y, r2, rfl, hy, z, r3, rfl, hz, rfl⟩ := rs
  simp only [Rep] at hx
  subst hx
  exact ⟨a, _, rfl, ha, y, z, rfl, hy, hz⟩
theorem ql {H : Hp} {a : Addr} (h : H a = some (.tup [.str "whole"])) : Rep H Kd.whole.dv (.ref a) := by
 simp only [Kd.dv, Rep, Reps]
 exact ⟨a, _, rfl, h, _, _, rfl, rfl, rfl⟩
theorem jD {H : Hp} {a : Addr} {l : V} {c : Int} {ps : List Pr} (h : H a = some (.tup [.str "place", l])) (r : Rep H (aN c ps) l) : Rep H (Kd.place c ps).dv (.ref a) := by
 rw [Kd.dv, Rep]
 refine ⟨a, _, rfl, h, ?_⟩
 simp only [Reps]
 exact ⟨_, _, rfl, by simp only [Rep], _, _, rfl, r, rfl⟩
theorem ko {H : Hp} {a : Addr} {l u : V} {c : Int} {ps : List Pr} {k : Kd} (h : H a = some (.tup [.str "row", l, u])) (r : Rep H (aN c ps) l) (r2 : Rep H k.dv u) : Rep H (Kd.row c ps k).dv (.ref a) := by
 rw [Kd.dv, Rep]
 refine ⟨a, _, rfl, h, ?_⟩
 simp only [Reps]
 exact ⟨_, _, rfl, by simp only [Rep], _, _, rfl, r, _, _, rfl, r2, rfl⟩
theorem mJ {H : Hp} {a : Addr} {l u : V} {j k : Kd} (h : H a = some (.tup [.str "pair", l, u])) (r : Rep H j.dv l) (r2 : Rep H k.dv u) : Rep H (Kd.pair j k).dv (.ref a) := by
 rw [Kd.dv, Rep]
 refine ⟨a, _, rfl, h, ?_⟩
 simp only [Reps]
 exact ⟨_, _, rfl, by simp only [Rep], _, _, rfl, r, _, _, rfl, r2, rfl⟩
theorem mw {G H2 : Hp} {kvs : List Pr} {qs : List TK} (hq : ∀ r ∈ qs, H2 r.1 = some (.tup (.str r.2.1 :: r.2.2)) /\ G r.1 = none) (pq : (qs.map (·.2)).Perm ((kvs.map fun p => (p.1, V.int p.2)).map fun p => (p.1, [p.2]))) (pw : qs.Pairwise qt) (hall : ∀ p ∈ kvs, 1 <= p.2) :
  (qs.map tkV).Perm kvs /\ aR (qs.map tkV) /\ ∀ t, H2 t = none -> Rep (upd H2 t (.tup (qs.map fun r => V.ref r.1))) (.tup (aV (qs.map tkV))) (.ref t) := by
 have shape : ∀ r ∈ qs, ∃ p ∈ kvs, r.2 = (p.1, [V.int p.2]) := fun r hr' => by
  have := pq.mem_iff.mp (List.mem_map_of_mem (f := (·.2)) hr')
  rw [List.map_map] at this
  obtain ⟨p, hp, e⟩ := List.mem_map.mp this
  exact ⟨p, hp, e.symm⟩
 have tk : ∀ r ∈ qs, r.2.1 = (tkV r).1 /\ r.2.2 = [V.int (tkV r).2] := fun r hr' => by
  obtain ⟨p, _, e⟩ := shape r hr'
  unfold tkV
  rw [e]
  exact ⟨rfl, rfl⟩
 have perm : (qs.map tkV).Perm kvs := by
  have e1 : qs.map tkV = (qs.map (·.2)).map fun z => (z.1, match z.2 with | [.int n] => n | _ => 0) := by
   rw [List.map_map]; rfl
  have e2 : kvs = ((kvs.map fun p => (p.1, V.int p.2)).map fun p => (p.1, [p.2])).map fun z => (z.1, match z.2 with | [.int n] => n | _ => 0) := by
   rw [List.map_map, List.map_map]
   exact (List.map_id kvs).symm
  rw [e1]
  rw [e2]
  exact pq.map _
 refine ⟨perm, ⟨List.pairwise_map.mpr (pw.imp fun {x y} h => h), fun p hp => hall p (perm.mem_iff.mp hp)⟩, fun t ht => ?_⟩
 simp only [Rep]
 refine ⟨t, _, rfl, ab, cg fun r hr' => ?_⟩
 have := (hq r hr').1
 rw [(tk r hr').1, (tk r hr').2] at this
 exact ac ht _ _ _ this
theorem rC {H : Hp} {c : Int} {ps : List Pr} {p : Addr} {w : V} (hp : H p = some (.tup [.int c, w])) (R : Rep H (.tup (aV ps)) w) : Rep H (aN c ps) (.ref p) := by
 obtain ⟨b, us, rfl, hb, ru⟩ := Rep.tup_inv R
 exact dc hp hb ru
theorem ka {H : Hp} : ∀ {ds : List Dv} {d : Dv} {vs : List V}, Reps H (ds ++ [d]) vs -> ∃ vs0 v, vs = vs0 ++ [v] /\ Reps H ds vs0 /\ Rep H d v
 | [], d, vs, h => by
  simp only [List.nil_append, Reps] at h
  obtain ⟨v, r, rfl, hv, rfl⟩ := h
  exact ⟨[], v, rfl, by simp only [Reps], hv⟩
 | e :: ds, d, vs, h => by
  simp only [List.cons_append, Reps] at h
  obtain ⟨v, r, rfl, hv, hr⟩ := h
  obtain ⟨vs0, u, rfl, h1, h2⟩ := ka hr
  exact ⟨v :: vs0, u, rfl, by simp only [Reps]; exact ⟨v, vs0, rfl, hv, h1⟩, h2⟩
theorem bb {H : Hp} {d : Dv} {v : V} (h : Rep H d v) : Reps H [d] [v] := by simp only [Reps]; exact ⟨v, [], rfl, h, rfl⟩
theorem mK (vs : List V) (v : V) : (vs ++ [v])[(vs ++ [v]).length - 1]? = some v := by simp
theorem iq {t1 t2 : TT} {σ : St} {H : Hp} {Q : Bool -> Hp -> Prop} (C : Prop) (qT : C -> Q true H) (qF : Q false H) (f : (C -> Q true H) -> Q false H -> vY t1 t2 σ H Q) : vY t1 t2 σ H Q := f qT qF
theorem uc {α : Type} : ∀ {l : List α}, l ≠ [] -> ∃ l0 x, l = l0 ++ [x] := fun {l} h => by
 rcases List.eq_nil_or_concat l with e | ⟨l0, x, e⟩
 ·exact absurd e h
 ·exact ⟨l0, x, by rw [e]; simp⟩
theorem gnm {i : Nat} {x : V} {σ : St} {H : Hp} {N : St -> Hp -> Prop} (h : N (σ.set i (some x)) H) : ev i x σ H N := h
theorem ifT {A B : Prop} (h : if true = true then A else B) : A := by rwa [if_pos rfl] at h
theorem ifF {A B : Prop} (h : if false = true then A else B) : B := by rwa [if_neg Bool.false_ne_true] at h
def gX : Option (Int × List Pr) -> Dv
 | some p => aN p.1 p.2
 | none => .non
theorem uB (x : Option (Int × List Pr)) : L2.Pl 3 (gX x) := by
 cases x with
 | none => exact .non
 | some p => exact bQ _ _
theorem nZ : ¬ (Str.ofString "whole" = Str.ofString "place") := by decide +kernel
theorem kS : ¬ (Str.ofString "whole" = Str.ofString "row") := by decide +kernel
theorem qE : ¬ (Str.ofString "whole" = Str.ofString "pair") := by decide +kernel
theorem nJ : ¬ (Str.ofString "place" = Str.ofString "row") := by decide +kernel
theorem kE : ¬ (Str.ofString "place" = Str.ofString "pair") := by decide +kernel
theorem lr : ¬ (Str.ofString "row" = Str.ofString "pair") := by decide +kernel
theorem tS {x y : Kd} (h : x.word = y.word) : x.len?.isSome = y.len?.isSome := by
 cases x with
 | whole => cases y with
  | whole => rfl
  | place _ _ => exact absurd h nZ
  | row _ _ _ => exact absurd h kS
  | pair _ _ => rfl
 | place _ _ => cases y with
  | whole => exact absurd h.symm nZ
  | place _ _ => rfl
  | row _ _ _ => rfl
  | pair _ _ => exact absurd h kE
 | row _ _ _ => cases y with
  | whole => exact absurd h.symm kS
  | place _ _ => rfl
  | row _ _ _ => rfl
  | pair _ _ => exact absurd h lr
 | pair _ _ => cases y with
  | whole => rfl
  | place _ _ => exact absurd h.symm kE
  | row _ _ _ => exact absurd h.symm lr
  | pair _ _ => rfl
theorem wne {x y : Str} (h : ¬ x = y) : ¬ V.str x = V.str y := fun e => h (V.str.inj e)
end KB
namespace L2
open PySem PySem.Spec PyProof.Rows PySem.W
section
variable {X : Cx}
end
end L2
namespace KB
open PySem L2
theorem cB {H : Hp} {α : Type} {f : α -> Dv} {xs : List α} {us : List V} {i : Nat} {u : V} (R : Reps H (xs.map f) us) (h : us[i]? = some u) : ∃ x, xs[i]? = some x /\ Rep H (f x) u := by
 obtain ⟨d, hd, Rd⟩ := R.get h
 rw [List.getElem?_map] at hd
 obtain ⟨x, hx, rfl⟩ := Option.map_eq_some_iff.mp hd
 exact ⟨x, hx, Rd⟩
theorem iP {H : Hp} {a : Addr} (h : H a = some (.tup [.str "unlike"])) : Rep H (.tup [.str "unlike"]) (.ref a) := by
 simp only [Rep, Reps]
 exact ⟨a, _, rfl, h, _, _, rfl, rfl, rfl⟩
theorem mM {H : Hp} {x : Option (Int × List Pr)} {u : V} (R : Rep H (gX x) u) : (x = none /\ u = .non) \/ ∃ p ds, x = some p /\ gX x = .tup ds /\ Rep H (.tup ds) u := by
 cases x with
 | none => exact .inl ⟨rfl, by simpa only [gX, Rep] using R⟩
 | some p => exact .inr ⟨p, _, rfl, rfl, R⟩
theorem vm {H : Hp} {k : Kd} {v : V} (R : Rep H k.dv v) : ∃ a vs, v = .ref a /\ H a = some (.tup (.str k.word :: vs)) := by
 obtain ⟨a, vs, e, ha, _⟩ := Kd.inv R
 exact ⟨a, vs, e, ha⟩
def ptD (k : Kd) : Dv := .tup [.str k.word, gX k.len?]
theorem tE (k : Kd) : L2.Pl 4 (ptD k) := .tup fun d hd => by
 rcases List.mem_cons.mp hd with rfl | hd
 ·exact .str
 ·rw [List.mem_singleton.mp hd]; exact uB _
theorem oR {H : Hp} {k : Kd} {v : V} (R : Rep H (ptD k) v) : ∃ a u, v = .ref a /\ H a = some (.tup [.str k.word, u]) /\ Rep H (gX k.len?) u := by
 obtain ⟨a, vs, rfl, ha, rs⟩ := Rep.tup_inv R
 obtain ⟨x, y, rfl, r1, r2⟩ := Reps.two rs
 simp only [Rep] at r1
 subst r1
 exact ⟨a, y, rfl, ha, r2⟩
theorem ij {H : Hp} {k : Kd} {a : Addr} {u : V} (ha : H a = some (.tup [.str k.word, u])) (R : Rep H (gX k.len?) u) : Rep H (ptD k) (.ref a) := by
 unfold ptD
 rw [Rep]
 refine ⟨a, _, rfl, ha, ?_⟩
 simp only [Reps]
 exact ⟨_, _, rfl, by simp only [Rep], _, _, rfl, R, rfl⟩
theorem gb {K : PySem.W.Frag} {H : Hp} {a1 b1 : Addr} {us ws : List V} {ds es : List Dv} {Q : VK} (ha1 : H a1 = some (.tup us)) (hb1 : H b1 = some (.tup ws)) (ru : Reps H ds us) (rw' : Reps H es ws) (hl : us.length + ws.length <= 1000)
  (fin : ∀ (H1 : Hp) (x : Addr) (xs : List V), ao H H1 -> H1 x = some (.tup xs) -> Reps H1 (ds ++ es) xs -> Q (.ref x) H1) : vg K (.ref a1) (.ref b1) H Q := by
 have lu := ru.length
 have lw := rw'.length
 refine ⟨a1, b1, us, ws, rfl, rfl, SqT.of ha1, SqT.of hb1, by rw [sizeLine_eq]; omega, fun e => ?_, fun e => ?_, fun p hp => ?_⟩
 ·have e1 : ds = [] := List.eq_nil_of_length_eq_zero (by rw [<- lu, e]; rfl)
  subst e1
  exact fin H b1 ws (ao.refl _) hb1 rw'
 ·have e1 : es = [] := List.eq_nil_of_length_eq_zero (by rw [<- lw, e]; rfl)
  subst e1
  exact fin H a1 us (ao.refl _) ha1 (by rw [List.append_nil]; exact ru)
 ·have s1 : ao H (upd H p (.tup (us ++ ws))) := ac hp _
  exact fin _ p (us ++ ws) s1 ab (Reps.append (ru.mono s1) (rw'.mono s1))
theorem jB {H : Hp} : ∀ {ds : List Dv} {vs : List V} (n : Nat), Reps H ds vs -> Reps H (ds.take n) (vs.take n)
 | _, _, 0, _ => by simp only [List.take_zero, Reps]
 | [], vs, n + 1, h => by simp only [Reps] at h; subst h; simp only [List.take_nil, Reps]
 | d :: ds, vs, n + 1, h => by
  simp only [Reps] at h
  obtain ⟨v, r, rfl, h1, h2⟩ := h
  simp only [List.take_succ_cons, Reps]
  exact ⟨v, _, rfl, h1, jB n h2⟩
theorem fh {H : Hp} : ∀ {ds : List Dv} {vs : List V} (n : Nat), Reps H ds vs -> Reps H (ds.drop n) (vs.drop n)
 | _, _, 0, h => h
 | [], vs, n + 1, h => by simp only [Reps] at h; subst h; simp only [List.drop_nil, Reps]
 | d :: ds, vs, n + 1, h => by
  simp only [Reps] at h
  obtain ⟨v, r, rfl, h1, h2⟩ := h
  simp only [List.drop_succ_cons]
  exact fh n h2
theorem wD (xs : List V) (n : Nat) (h : n <= xs.length) : cE xs none (some (n : Int)) = xs.take n := by
 unfold cE
 rw [HT.sIx_none, HT.sIx_nat]
 simp [Nat.min_eq_left h]
theorem mx (xs : List V) (n : Nat) (h : n <= xs.length) : cE xs (some (n : Int)) none = xs.drop n := by
 unfold cE
 rw [HT.sIx_none, HT.sIx_nat, Nat.min_eq_left h]
 exact List.take_of_length_le (by rw [List.length_drop]; omega)
theorem nG {t1 t2 : TS} {D : fq} {σ : St} {H : Hp} (M : St -> Hp -> Prop) (h2 : ∀ σ' H', M σ' H' -> t2 D σ' H') (f : (∀ σ' H', M σ' H' -> t2 D σ' H') -> vc t1 t2 D σ H) : vc t1 t2 D σ H := f h2
end KB
namespace L2
open PySem PySem.Spec PyProof.Rows PySem.W
section
variable {P : Program} {w : World} {A : Around} {E : Value -> Shared -> Prop} {s : Shared}
end
section
variable {X : Cx}
theorem se {x y : V} {u : Value} (h : aX x u) (g : aX y u) : x = y := by
 cases x <;> cases y <;> simp only [aX] at h g <;> first | (obtain ⟨_, rfl⟩ := h; obtain ⟨_, g⟩ := g; cases g; rfl) | (obtain ⟨_, rfl⟩ := h; obtain ⟨_, g⟩ := g; cases g; done) | (obtain ⟨_, rfl⟩ := h; cases g; done) | (subst h; obtain ⟨_, g⟩ := g; cases g; done) | (subst h; cases g; rfl) | (subst h; cases g; done) | rfl
theorem mZ {H : Hp} : ∀ {ds : List Dv} {vs : List V} {us : List Value}, Reps H ds vs -> aU vs us -> ∀ u ∈ us, ∃ d v, d ∈ ds /\ Rep H d v /\ aX v u
 | _, _, _, R, .nil, u, hu => nomatch hu
 | [], _, _, R, .cons _ _, _, _ => by simp [Reps] at R
 | d :: ds, _, _, R, .cons r t, u, hu => by
  simp only [Reps] at R
  obtain ⟨v, vs, e, R1, R2⟩ := R
  cases e
  rcases List.mem_cons.mp hu with rfl | hu
  ·exact ⟨d, _, List.mem_cons_self, R1, r⟩
  ·obtain ⟨d', v', h1, h2, h3⟩ := mZ R2 t u hu
   exact ⟨d', v', List.mem_cons_of_mem _ h1, h2, h3⟩
theorem nk {H : Hp} : ∀ {ds : List Dv} {vs : List V} {us : List Value}, Reps H ds vs -> aU vs us -> ∀ d ∈ ds, ∃ u v, u ∈ us /\ Rep H d v /\ aX v u
 | [], _, _, _, _, d, hd => nomatch hd
 | _ :: _, _, _, R, .nil, _, _ => by simp [Reps] at R
 | d :: ds, _, _, R, .cons r t, e, he => by
  simp only [Reps] at R
  obtain ⟨v, vs, e1, R1, R2⟩ := R
  cases e1
  rcases List.mem_cons.mp he with rfl | he
  ·exact ⟨_, _, List.mem_cons_self, R1, r⟩
  ·obtain ⟨u', v', h1, h2, h3⟩ := nk R2 t e he
   exact ⟨u', v', List.mem_cons_of_mem _ h1, h2, h3⟩
end
section
variable {X : Cx}
def xy (neg : Bool) : R2 := fun y x H Q => ∃ a o, x = .ref a /\ dC H a y o /\ Q (.bl (if neg then !o.isSome else o.isSome)) H
theorem ju (hu : X.A.units + 1 < cLine) : OpR X (compareOp .NotIn) (xy true) := by
 intro pins s σ H y x iv u Q I ry rx h
 obtain ⟨a, ov, rfl, g, q⟩ := h
 obtain rfl : u = Value.ref a := rx
 exact uo hu I g ry fun s3 I3 => ⟨.bl (!ov.isSome), H, I3, rfl, q⟩
theorem wq (hu : X.A.units < cLine) : OpR X (compareOp .NotEq) (fun x y H Q => ∃ (l b : Addr) (xs : List V), x = .ref l /\ y = .ref b /\ SqL X.K H l xs /\ SqL X.K H b [] /\ Q (.bl (!xs.isEmpty)) H) := by
 intro pins s σ H x y v u Q I rx ry h
 obtain ⟨l, b, xs, rfl, rfl, hl, hb, q⟩ := h
 cases rx
 cases ry
 obtain ⟨its, r1, p1, _⟩ := I.list hl
 obtain ⟨its2, r2, p2, _⟩ := I.list hb
 have l1 := r1.length
 have l2 := r2.length
 cases xs with
 | nil =>
  refine SeqAt.RcNeAt.lists (e := fun _ => true) p1.isList p2.isList (by simp; omega) hu (fun j h1 h2 => ?_) X.prog X.w X.xe _ ?_
  ·have : j < its.length := by simpa using h1
   simp at l1; omega
  ·have e : (!((List.range its.toArray.size).all fun _ => true)) = false := by simp
   rw [e]
   exact ⟨.bl false, H, I, rfl, q⟩
 | cons x xs =>
  refine SeqAt.RcNeAt.lists_lengths p1.isList p2.isList ?_ hu X.prog X.w X.xe _ ⟨.bl true, H, I, rfl, q⟩
  rw [List.length_cons] at l1
  rw [List.length_nil] at l2
  rw [List.size_toArray, List.size_toArray, bne_iff_ne]
  omega
end
section
variable {X : Cx}
end
section
variable {X : Cx}
def oQ (K : PySem.W.Frag) : R2 := fun x y H Q => ∃ (p : Addr) (xs : List V) (n : Nat) (d : Dv) (ds : List Dv), y = .ref p /\ SqL K H p xs /\ Reps H ds xs /\ (∀ e ∈ ds, Pl n e) /\ Pl n d /\ n <= 140 /\ Rep H d x /\ ∀ b : Bool, (b = true ↔ d ∉ ds) -> Q (.bl b) H
theorem pU (hu : X.A.units + 150 < cLine) : OpR X (compareOp .NotIn) (oQ X.K) := by
 intro pins s σ H x y v u Q I rx ry h
 obtain ⟨p, xs, n, d, ds, rfl, hq, R, hp, hd, hn, Rx, q⟩ := h
 cases ry
 obtain ⟨its, r, pl, hz⟩ := I.list hq
 have f : ∀ w ∈ its, ∃ e ∈ ds, SeqAt.EqAt X.A.in1 s w v (cZ (∃ z, aX z w /\ Rep H d z)) /\ (cZ (∃ z, aX z w /\ Rep H d z) = true ↔ e = d) := fun w hw => by
  obtain ⟨e, y, he, Re, ry⟩ := mZ R r w hw
  have E := hZ I (hp e he) hd (A := X.A.in1) (by show X.A.units + 1 + n < cLine; omega) Re Rx ry rx
  have iff : (∃ z, aX z w /\ Rep H d z) ↔ e = d := ⟨fun ⟨z, h1, h2⟩ => Rep.inj _ _ _ Re (se h1 ry ▸ h2), fun z => ⟨y, ry, z ▸ Re⟩⟩
  have e2 : cZ (∃ z, aX z w /\ Rep H d z) = cZ (e = d) := di (by rw [bZ]; exact iff)
  exact ⟨e, he, e2 ▸ E, by rw [bZ]; exact iff⟩
 refine SeqAt.notIn_listAt (fun w => cZ (∃ z, aX z w /\ Rep H d z)) pl.isList (fun w hw => (f w (by simpa using hw)).choose_spec.2.1) ⟨.bl _, H, I, rfl, q _ ?_⟩
 rw [show its.toArray.any (fun w => cZ (∃ z, aX z w /\ Rep H d z)) = its.any (fun w => cZ (∃ z, aX z w /\ Rep H d z)) by simp, Bool.not_eq_true', List.any_eq_false]
 constructor
 ·intro h hm
  obtain ⟨w, y, hw, Ry, ry⟩ := nk R r d hm
  exact h w hw (bZ.mpr ⟨y, ry, Ry⟩)
 ·intro hm w hw e
  obtain ⟨e', he, _, i⟩ := f w hw
  exact hm (i.mp e ▸ he)
theorem uE (K : PySem.W.Frag) (e : X.K = K) (hu : X.A.units + 150 < cLine) : OpR X (compareOp .NotIn) (oQ K) := by subst e; exact pU hu
end
section
variable {X : Cx}
def wy (K : PySem.W.Frag) (te : TE) (tl ts : TO) : TE := fun σ H Q => te σ H fun x H1 => tl σ H1 fun l H2 => ts σ H2 fun t H3 => ∃ (a : Addr) (ns : List Int) (j : Int), x = .ref a /\ t = some j /\ j ≠ 0 /\ SqL K H3 a (ns.map V.int) /\ ∀ p (ms : List Int), ms.length <= ns.length -> H3 p = none -> Q (.ref p) (upd H3 p (.lst (ms.map V.int)))
theorem rR {e lo st : Expr} {te : TE} {tl ts : TO} {p2 pos : Pos} (he : PE X e te) (hl : PO X (some lo) tl) (hs : PO X (some st) ts) : PE X (.Subscript e (.Slice (some lo) none (some st) p2) pos) (wy X.K te tl ts) := by
 intro pins s σ H Q I h
 refine Subscript_ (thn (he pins s σ H _ I h) fun v s1 ⟨x, H1, I1, r1, q1⟩ => ?_)
 refine wpAny_Slice (thn (hl pins s1 σ H1 _ I1 q1) fun vl s2 ⟨l, H2, I2, pl, q2⟩ => ?_)
 rw [evalPart_none]
 refine wpAny_pure (thn (hs pins s2 σ H2 _ I2 q2) fun vu s3 ⟨u, H3, I3, pu, q3⟩ => ?_)
 obtain ⟨a, ns, j, rfl, rfl, j0, hx, q⟩ := q3
 cases r1
 have I4 : Inv X pins σ H3 { s3 with heap := s3.heap.push { cls := .type "slice", data := .fields #[vl, .none, vu] } } := I3.kept (t' := s3.toks) fun b ob q => Heap.get?_push_of_some _ q
 have hsl : (s3.heap.push { cls := .type "slice", data := .fields #[vl, .none, vu] }).IsSliceOf s3.heap.objs.size vl .none vu := Heap.IsSliceOf.new ..
 obtain ⟨its, r, ht, hz⟩ := I4.list hx
 have hlen : its.toArray.size = (ns.map V.int).length := by rw [List.size_toArray]; exact r.length.symm
 show wpAny (model X.prog X.w) X.A (subscriptTail e (.Slice (some lo) none (some st) p2) (.ref a) (.ref s3.heap.objs.size)) (EP X pins σ Q) X.xe { s3 with heap := s3.heap.push { cls := .type "slice", data := .fields #[vl, .none, vu] } }
 refine tail_any (ops := [.ref a, .ref s3.heap.objs.size]) ht.isList.typeIs slot_list_getitem.lookup ?_ (by with_unfolding_all rfl)
 refine wpAny_getItem_list_slice ht.isList hsl pl .none pu (fun e => j0 (by injection e)) ?_ (by rw [hlen]; exact hz)
 have ia := nS r
 have ip := ia.pick l none (some j)
 have lp := length_pickNums_le ia l none (some j)
 refine ⟨.ref _, _, I4.laid (t' := s3.toks) (o := .lst ((pickNums ns l none (some j)).map V.int)) (fun b ob q => Heap.get?_push_of_some _ q) (Nat.le_refl _) ?_, rfl, q _ _ lp (I4.hok.fresh (Nat.le_refl _))⟩
 rw [List.length_map] at hz
 exact ⟨by rw [List.length_map]; omega, _, 0, gJ ip, Heap.get?_push_size _ rfl⟩
end
section
variable {prog : Program} {w : World} {A : Around} {E : Value -> Shared -> Prop} {s : Shared} {r l : Addr} {items : Array Value}
theorem lV {R : Result -> Shared -> Prop} (hh : A.handled = none) (hr : s.heap.IsRevIter r l ((items.size : Int) - 1)) (hl : s.heap.IsList l items) (hlr : l ≠ r) (hn : items.size <= sizeLine)
  (hR : ∀ (h' : Heap) (tk : Nat) (acc : Array Value) (c' : Nat), (∀ b o, b ≠ r -> s.heap.get? b = some o -> h'.get? b = some o) -> h'.get? s.heap.objs.size = some { cls := .type "list", dict := none, data := .seq acc c', slots := #[] } -> ItemsOf (fun i v => items[items.size - 1 - i]? = some v) acc items.size -> R (.ok (.ret (.ref s.heap.objs.size))) { s with heap := h', toks := tk }) :
  codeAny (model prog w) A (.builtin "proto.collect" ⟨[.ref r], []⟩) R s := by
 refine codeAny_builtin F.entry_proto_collect ?_
 rw [Around.under_plainId F.plain_proto_collect _]
 show wpAny _ A.in1 (newList [] >>= fun l => again (.builtin "list.__iadd__" ⟨[l, .ref r], []⟩)) _ _ s
 refine wpAny_bind (wpAny_newObj_type ?_)
 refine wpAny_pure ⟨plainId_quiet F.plain_list_iadd _, codeAny_builtin F.entry_list_iadd ?_⟩
 rw [Around.under_plainId F.plain_list_iadd _]
 show wpAny _ A.in1 (Builtin.List.listExtendWith (.ref s.heap.objs.size) (.ref r) (.ref s.heap.objs.size)) _ _ _
 have hr' : r < s.heap.objs.size := let ⟨o, ho, _⟩ := hr; Heap.lt_size ho
 have hl' : l < s.heap.objs.size := let ⟨o, ho, _⟩ := hl; Heap.lt_size ho
 exact iT (R := R) (s := { s with heap := s.heap.push { cls := .type "list", data := .seq ([] : List Value).toArray } }) hh (hr.at fun o e => Heap.get?_push_of_some _ e) (hl.at fun o e => Heap.get?_push_of_some _ e) hlr (Nat.ne_of_gt hr') (Nat.ne_of_gt hl') _ 0 (Heap.get?_push_size _ rfl) (fun h' tk acc' c' hk hS' hacc => hR h' tk acc' c' (fun b o hb e => hk b o (Nat.ne_of_lt (Heap.lt_size e)) hb (Heap.get?_push_of_some _ e)) hS' hacc) hn
theorem mN {Q : List Value -> Shared -> Prop} (hh : A.handled = none) (hr : s.heap.IsRevIter r l ((items.size : Int) - 1)) (hl : s.heap.IsList l items) (hlr : l ≠ r)
  (hQ : ∀ (h' : Heap) (tk : Nat) (acc : Array Value), s.heap.objs.size <= h'.objs.size -> (∀ b o, b ≠ r -> s.heap.get? b = some o -> h'.get? b = some o) -> ItemsOf (fun i v => items[items.size - 1 - i]? = some v) acc items.size -> Q acc.toList { s with heap := h', toks := tk }) (hn : items.size <= sizeLine := by size_fits) :
  wpAny (model prog w) A (collect (.ref r)) Q E s := by
 unfold collect
 refine wpAny_bind (wpAny_runValue (lV hh hr hl hlr hn fun h' tk acc' c' hk hS' hacc => ?_))
 show wpAny _ A (load s.heap.objs.size >>= _) _ _ _
 refine wpAny_bind (wpAny_load hS' ?_)
 exact wpAny_pure (hQ h' tk acc' (Nat.le_of_lt (Heap.lt_size hS')) hk hacc)
theorem fo (r l : Addr) (items : Array Value) (hsz : items.size <= sizeLine) :
  Meets (Builtin.«tuple.__new__» ⟨[.type "tuple", .ref r], []⟩)
   (fun A R s => A.handled = none /\ s.heap.IsRevIter r l ((items.size : Int) - 1) /\ s.heap.IsList l items /\ l ≠ r /\ ∀ (h' : Heap) (tk : Nat) (acc : Array Value), s.heap.objs.size <= h'.objs.size -> (∀ b o, b ≠ r -> s.heap.get? b = some o -> h'.get? b = some o) -> ItemsOf (fun i v => items[items.size - 1 - i]? = some v) acc items.size ->
    R (.ok (.ret (.ref h'.objs.size))) { s with heap := h'.push { cls := .type "tuple", data := .seq acc }, toks := tk }) :=
 .of_wp fun prog w A R s h => by
  obtain ⟨hh, hr, hl, hlr, h⟩ := h
  have hsub := sub_tuple_self
  have hinit := init_tuple_lookup
  have hmh := madeHere_tuple
  have hT : s.TypeIs (.ref r) "list_reverseiterator" := hr.typeIs
  have hh1 : A.in1.handled = none := hh
  wp_walk using wpAny_typeOf hT, mN (hn := hsz) hh1 hr hl hlr
  intro h' tk acc hsz' hk hacc
  show wpAny _ _ (Builtin.Tuple.tupleExact acc.toList.toArray >>= fun v => ret v) _ _ _
  unfold Builtin.Tuple.tupleExact
  refine wpAny_bind (wpAny_newObj_type ?_ (show acc.toList.toArray.size <= sizeLine by simp only [Array.toArray_toList]; rw [hacc.1]; exact hsz))
  refine wpAny_pure ⟨_, rfl, ?_⟩
  have e : acc.toList.toArray = acc := by simp
  rw [e]
  exact h h' tk acc hsz' hk hacc
theorem iW {Q : Value -> Shared -> Prop} (hh : A.handled = none) (hr : s.heap.IsRevIter r l ((items.size : Int) - 1)) (hl : s.heap.IsList l items) (hlr : l ≠ r) (hn : items.size <= sizeLine)
  (hQ : ∀ (h' : Heap) (tk : Nat) (acc : Array Value), s.heap.objs.size <= h'.objs.size -> (∀ b o, b ≠ r -> s.heap.get? b = some o -> h'.get? b = some o) -> ItemsOf (fun i v => items[items.size - 1 - i]? = some v) acc items.size -> Q (.ref h'.objs.size) { s with heap := h'.push { cls := .type "tuple", data := .seq acc }, toks := tk }) :
  wpAny (model prog w) A (call (.type "tuple") [.ref r]) Q E s :=
 callType_new F.called_tuple (by decide) (F.typeCall_tuple_1 _) (F.newCall_tuple_1 _) (fun obj => F.args_object_init_2 obj _) F.entry_tuple_new
  (fo r l items hn) ⟨hh, hr, hl, hlr, fun h' tk acc hz' hk hacc => ⟨⟨_, Heap.get?_push_size _ rfl, rfl⟩, hQ h' tk acc hz' hk hacc⟩⟩
end
section
variable {X : Cx} {e : Expr} {te : TE} {p p1 pos pos1 : Pos}
def uK (K : PySem.W.Frag) (te : TE) : TE := fun σ H Q => te σ H fun x H1 => ∃ l ys, x = .ref l /\ SqL K H1 l ys /\ ∀ a, H1 a = none -> Q (.ref a) (upd H1 a (.tup ys.reverse))
theorem qH (hg : Gl X "tuple") (hm : X.mg "tuple" = none) (hg' : Gl X "reversed") (hm' : X.mg "reversed" = none) (hc : X.calm = true) (he : PE X e te)
  (hs : starEach [e] X.env = [(false, eval e X.env)] := by rfl) (hs2 : starEach [.Call (.Name "reversed" p1) [e] [] pos1] X.env = [(false, eval (.Call (.Name "reversed" p1) [e] [] pos1) X.env)] := by rfl) :
  PE X (.Call (.Name "tuple" p) [.Call (.Name "reversed" p1) [e] [] pos1] [] pos) (uK X.K te) := by
 intro pins s σ H Q I h
 refine wpAny_Call_Name_kw (cU I hg hm (u := .type "tuple") (by decide +kernel) ?_)
 refine PyProof.Rows.callWith_type1 ?_ hs2 rfl
 rw [hs2]
 show wpAny _ _ (spliced ((false, eval (.Call (.Name "reversed" p1) [e] [] pos1) X.env) :: backTo pos [])) _ _ s
 refine Calls.spliced_cons (wpAny_Call_Name_kw (cU I hg' hm' (u := .type "reversed") (by decide +kernel) (PyProof.Rows.callWith_type1 ?_ hs rfl)))
 rw [hs]
 show wpAny _ _ (spliced ((false, eval e X.env) :: backTo pos1 [])) _ _ s
 refine Calls.spliced_cons (thn (he pins s σ H _ I h) fun u s1 ⟨x, H1, I1, r1, l, ys, ex, hq, q⟩ => Calls.spliced_nil ?_)
 subst ex
 cases r1
 obtain ⟨its, rv, pl, hz⟩ := I1.list hq
 have li : its.length = ys.length := rv.length.symm
 have hl' : l < s1.heap.objs.size := let ⟨o, ho, _⟩ := pl.isList; Heap.lt_size ho
 refine call_reversed_list pl.isList (Calls.spliced_nil ?_)
 refine iW (A := X.A) (s := { s1 with heap := s1.heap.push (revObj l ((its.toArray.size : Int) - 1)) }) (I1.ok.hd hc) ⟨_, Heap.get?_push_size _ rfl, rfl, rfl⟩ (pl.isList.at fun o e => Heap.get?_push_of_some _ e) (Nat.ne_of_lt hl') (by simp; omega) fun h' tk acc hsz' k it => ?_
 have k0 : ∀ b o, s1.heap.get? b = some o -> h'.get? b = some o := fun b o e => k b o (Nat.ne_of_lt (Heap.lt_size e)) (Heap.get?_push_of_some _ e)
 have k1 : ∀ b o, s1.heap.get? b = some o -> (h'.push { cls := .type "tuple", data := .seq acc }).get? b = some o := fun b o e => Heap.get?_push_of_some _ (k0 b o e)
 have rv' : aU ys.reverse acc.toList := by
  refine kh (by have h1 := it.1; have h2 : acc.toList.length = acc.size := Array.length_toList; rw [List.length_reverse, h2, h1]; simpa using li.symm) fun i x u h1 h2 => ?_
  have hi : i < ys.length := by have := (List.getElem?_eq_some_iff.mp h1).1; rwa [List.length_reverse] at this
  rw [List.getElem?_reverse hi] at h1
  have h3 := it.2 i u (by rw [<- Array.getElem?_toList]; exact h2)
  have h4 : its[ys.length - 1 - i]? = some u := by simpa [li] using h3
  obtain ⟨u', hu', ru⟩ := rv.get h1
  rw [h4] at hu'
  cases hu'
  exact ru
 have hz2 : (s1.heap.push (revObj l ((its.toArray.size : Int) - 1))).objs.size = s1.heap.objs.size + 1 := Heap.size_push ..
 have hz1 : s1.heap.objs.size <= h'.objs.size := by
  have h9 : (s1.heap.push (revObj l ((its.toArray.size : Int) - 1))).objs.size <= h'.objs.size := hsz'
  omega
 have ea : acc.toList.toArray = acc := by simp
 refine ⟨.ref h'.objs.size, _, I1.laid (t' := tk) (a := h'.objs.size) k1 hz1 (o := .tup ys.reverse) ?_, rfl, q _ (I1.hok.fresh hz1)⟩
 refine ⟨by rw [List.length_reverse]; exact hz, acc.toList, rv', ?_, NoD.new _ rfl⟩
 rw [ea]
 exact IsTup.new _ _
end
section
variable {X : Cx}
def xa : R2 := fun x y H Q => ∃ (n : Nat) (dss : List (List Dv)), (∀ ds ∈ dss, ∀ d ∈ ds, Pl n d) /\ n <= 140 /\ Rep H (.lst (dss.map Dv.lst)) x /\ Rep H (.lst (dss.map Dv.lst)) y /\ Q (.bl true) H
theorem uU (hu : X.A.units + 150 < cLine) : OpR X (compareOp .Eq) xa := by
 intro pins s σ H x y v u Q I rx ry h
 obtain ⟨n, dss, hd, hn, r1, r2, q⟩ := h
 simp only [Rep] at r1 r2
 obtain ⟨l, vs, rfl, h1, rs1⟩ := r1
 obtain ⟨b', ws, rfl, h2, rs2⟩ := r2
 cases rx
 cases ry
 obtain ⟨its, rv1, p1, _⟩ := I.list (SqL.of h1)
 obtain ⟨its2, rv2, p2, _⟩ := I.list (SqL.of h2)
 have l1 := rs1.length
 have l2 := rs2.length
 have l3 := rv1.length
 have l4 := rv2.length
 refine SeqAt.RcAt.lists (e := fun j => true) p1.isList p2.isList (by simp; omega) (by omega) (fun j h1 h2 => ?_) X.prog X.w X.xe _ ?_
 ·have hj : j < its.length := by simpa using h1
  have hj2 : j < its2.length := by simpa using h2
  obtain ⟨u, hu1, ru⟩ := aU.get (i := j) (x := vs[j]'(by omega)) rv1 (List.getElem?_eq_getElem _)
  obtain ⟨u2, hu2, ru2⟩ := aU.get (i := j) (x := ws[j]'(by omega)) rv2 (List.getElem?_eq_getElem _)
  obtain ⟨d, hd1, Rd⟩ := rs1.get (i := j) (v := vs[j]'(by omega)) (List.getElem?_eq_getElem _)
  obtain ⟨d2, hd2, Rd2⟩ := rs2.get (i := j) (v := ws[j]'(by omega)) (List.getElem?_eq_getElem _)
  have e1 : its.toArray[j] = u := by
   have := List.getElem?_eq_getElem hj; rw [hu1] at this; simpa using this.symm
  have e2 : its2.toArray[j] = u2 := by
   have := List.getElem?_eq_getElem hj2; rw [hu2] at this; simpa using this.symm
  rw [e1, e2]
  rw [hd1] at hd2
  cases hd2
  rw [List.getElem?_map] at hd1
  obtain ⟨ds, hds, rfl⟩ := Option.map_eq_some_iff.mp hd1
  have hdm := List.mem_of_getElem? hds
  simp only [Rep] at Rd Rd2
  obtain ⟨la, va, ea, ha, ra⟩ := Rd
  obtain ⟨lb, vb, eb, hb, rb⟩ := Rd2
  rw [ea] at ru
  rw [eb] at ru2
  cases ru
  cases ru2
  obtain ⟨ja, rva, pa, _⟩ := I.list (SqL.of ha)
  obtain ⟨jb, rvb, pb, _⟩ := I.list (SqL.of hb)
  have hu' : X.A.in1.in1.units + n < cLine := by show X.A.units + 1 + 1 + n < cLine; omega
  obtain ⟨z1, z2, w⟩ := dW I (A := X.A.in1.in1) (n := n) (fun d hd1 e he v w a b r1 r2 q1 q2 => hZ I (hd ds hdm d hd1) (hd ds hdm e he) hu' r1 r2 q1 q2) ra rb rva rvb
  have R := SeqAt.RcAt.lists (A := X.A.in1) (e := fun j => cZ (ds[j]? = ds[j]?)) pa.isList pb.isList (by omega) (by show X.A.units + 1 < cLine; omega) w
  have e : ((List.range ja.toArray.size).all fun j => cZ (ds[j]? = ds[j]?)) = true := by
   rw [List.all_eq_true]
   exact fun j _ => bZ.mpr rfl
  rw [e] at R
  by_cases hne : la = lb
  ·subst hne; exact SeqAt.EqAt.same _
  ·exact SeqAt.EqAt.of_refs hne R
 ·have e : ((List.range its.toArray.size).all fun _ => true) = true := by simp
  rw [e]
  exact ⟨.bl true, H, I, rfl, q⟩
end
end L2
namespace K31
open PySem L2 KB
def top (i : Nat) : Stmt := PySem.Challenge.pw_indexwise_k31_what_calls_bind.main.body.getD i (.Pass ⟨0, 0, 0, 0⟩)
structure Txt (K : PySem.W.Frag) (mg : Str -> Option Value) : Prop where
 len : mg "len" = none
 isinstance : mg "isinstance" = none
 tuple : mg "tuple" = none
 list : mg "list" = none
 dict : mg "dict" = none
 set : mg "set" = none
 sorted : mg "sorted" = none
 zip : mg "zip" = none
 range : mg "range" = none
 enumerate : mg "enumerate" = none
 max : mg "max" = none
 reversed : mg "reversed" = none
 all : mg "all" = none
 any : mg "any" = none
abbrev cz : Stmt := top 3
abbrev eY : Stmt := top 4
def lN : Sp := fun vs H Q _ => ∃ (v : V) (ps : List Pr), vs = [v] /\ Rep H (.tup (aV ps)) v /\ (∀ p ∈ ps, 1 <= p.2) /\ ps.length <= 60 /\
 ∀ (H' : Hp) (w : V) (qs : List Pr), ao H H' -> Rep H' (.tup (aV qs)) w -> aR qs -> (∀ x, tm qs x = eB ps x) -> qs.length <= ps.length -> Q w H'
section
variable {P : Program} {w : World} {K : PySem.W.Frag} {mg : Str -> Option Value} {base : Heap}
theorem gR : aW ["parts", "total", "key", "times"] ["parts"] (aj cz) := ⟨rfl, rfl, rfl, by decide +kernel, rfl, by decide +kernel, by decide +kernel⟩
theorem nb {f : Addr} {fd : FuncData} (F : Fun K "gathered" "gathered" cz f fd) (T : Txt K mg) : br P w K mg base CX0 1 f fd ["parts"] lN := by
 have nd : (["parts", "total", "key", "times"] : List Str).Nodup := gR.nd
 refine F.ok gR (fun vs H Q E h => ?_) (fun cdv A outer s H vs Q E hr h => ?_)
 ·obtain ⟨v, ps, rfl, _⟩ := h
  rfl
 obtain ⟨v, ps, rfl, R, hge, h40, q⟩ := h
 have hu := cW hr
 obtain ⟨a, us, rfl, ha, ru⟩ := Rep.tup_inv R
 have lus : us.length = ps.length := by have := ru.length; rwa [List.length_map] at this
 refine ⟨_, (@ag _ _ _ _ _ (@aM _ _ (1) _ _ _ _ nd rfl (Or.inl rfl) (@dI _ _) (by rfl) (by trivial)) (@ag _ _ _ _ _ (@cv _ _ _ _ _ _ _ _ PassesOwn.never rfl (@bX _ _ _ _ (@pv _ 0 _ _ (by rfl) (by trivial) (by decide) (by decide))) (@bT _ _ _ _ _ _ rfl (@aQ _ _ _ _ _ (@aG _ _ (2) _ nd rfl (Or.inl rfl) (by trivial)) (@aQ _ _ _ _ _ (@aG _ _ (3) _ nd rfl (Or.inl rfl) (by trivial)) (@bA _) (by rfl)) (by rfl)) (by rfl) (by rfl)) (@ak _ _ _ (@dg _ _ _ _ _ _ _ _ _ hu (@pv _ 1 _ _ (by rfl) (by trivial) (by decide) (by decide)) (@pv _ 2 _ _ (by rfl) (by trivial) (by decide) (by decide)) (@au _ _ _ _ _ _ _ _ bw (@cD _ _ _ _ _ _ _ _ _ hu (@pv _ 1 _ _ (by rfl) (by trivial) (by decide) (by decide)) (@pv _ 2 _ _ (by rfl) (by trivial) (by decide) (by decide)) (@ad _ _ _ _) ⟨rfl, rfl, rfl, rfl⟩) (@pv _ 3 _ _ (by rfl) (by trivial) (by decide) (by decide))) rfl)) (by intro _; rfl)) (@ak _ _ _ (@aE _ _ _ _ (@aZ _ _ _ _ _ _ _ _ _ ba rfl T.tuple (by decide +kernel) (@aa _ _ _ _ _ (@bt _ _ _ _ _ _ _ _ _ (fV rfl) rfl T.sorted (by decide +kernel) (@aa _ _ _ _ _ (@kK _ _ _ _ _ _ _ _ _ PySem.F.plainAttrs_dict PySem.F.slot_dict_items PySem.F.type_dict_items ny (@pv _ 1 _ _ (by rfl) (by trivial) (by decide) (by decide)) (by rfl) (by rfl)) (@ae _) (by rfl)) (by decide) (by decide) (by rfl) (by rfl)) (@ae _) (by rfl)) (by decide) (by decide) (by rfl) (by rfl)))))), ?_⟩
 intro d hd
 have s0 : ao H (upd H d (.dK [])) := ac hd _
 refine ⟨_, rfl, a, rfl, ⟨us, SqT.of (s0 _ _ ha)⟩, fK (xs := us) (fun i σ H' => ∃ (kvs : List Pr) (o1 o2 : Option V), σ = [some (.ref a), some (.ref d), o1, o2] /\ ao H H' /\ H' d = some (.dK (dk kvs)) /\ (kvs.map (·.1)).Nodup /\ kvs.length <= i /\ (∀ p ∈ kvs, 1 <= p.2) /\ ∀ x, tm kvs x = eB (ps.take i) x)
  ⟨[], _, _, rfl, s0, ab, by simp, by simp, by simp, fun x => rfl⟩ (fun i σ H' _ ⟨_, _, _, _, s1, _⟩ => SqT.of (s1 _ _ ha)) ?T1 ?_⟩
 case T1 =>
  rintro i x σ H1 hx ⟨kvs, o1, o2, rfl, s1, d1, ndk, hl, hall, ht⟩
  obtain ⟨p, b, hp, rfl, hb⟩ := bO ru hx
  have hi : i < us.length := (List.getElem?_eq_some_iff.mp hx).1
  refine ⟨b, _, rfl, SqT.of (s1 _ _ hb), rfl, _, _, rfl, _, _, rfl, rfl, ?_⟩
  refine ⟨_, rfl, d, rfl, .inl ⟨_, .inl d1⟩, _, rfl, _, dC.k (k := Sum.inr p.1) d1, _, rfl, tm kvs p.1, p.2, iY _ _, rfl, _, rfl, _, rfl, d, _, rfl, gY.k (k := Sum.inr p.1) d1 ?_, ?_⟩
  ·rw [show (dk kvs).length = kvs.length from List.length_map _, sizeLine_eq]; omega
  have hp1 := hge p (List.mem_of_getElem? hp)
  have h0 := bx (fun r hr' => Int.le_trans (by decide) (hall r hr')) p.1
  refine ⟨fG kvs p.1 (tm kvs p.1 + p.2), _, _, rfl, fun e o he => ?_, ?_, gM ndk, Nat.le_trans (iV _ _ _) (by omega), iz (R := fun r => 1 <= r.2) hall (by show 1 <= tm kvs p.1 + p.2; omega), fun x => ?_⟩
  ·rw [aq (ai he hd)]
   exact s1 _ _ he
  ·rw [ab, kF]
  ·rw [tF, jW hp, ht x]
   by_cases e : p.1 = x
   ·subst e; rw [if_pos rfl, if_pos rfl, ht p.1]
   ·rw [if_neg e, if_neg e]; omega
 rintro σ H1 ⟨kvs, o1, o2, rfl, s1, d1, ndk, hl, hall, ht⟩
 refine ⟨_, rfl, .inr (.inr (.inl ⟨rfl, .inl ⟨_, d1⟩⟩)), d, _, rfl, rfl, d1, fun v hv => ?_⟩
 refine ⟨v, d, kvs.map fun p => (p.1, V.int p.2), rfl, ab, ?_, ?_, fun H2 l qs s2 hl' hq hlst pq pw => ?_⟩
 ·rw [aq (ai d1 hv), d1, List.map_map]; rfl
 ·rw [List.length_map]; omega
 refine ⟨l, _, rfl, .inl ⟨SqL.of hlst, fun t ht' => ?_⟩⟩
 have s12 : ao H1 H2 := (ac hv _).trans s2
 have s3 : ao H2 (upd H2 t (.tup (qs.map fun r => V.ref r.1))) := ac ht' _
 have shape : ∀ r ∈ qs, ∃ p ∈ kvs, r.2 = (p.1, [V.int p.2]) := fun r hr' => by
  have := pq.mem_iff.mp (List.mem_map_of_mem (f := (·.2)) hr')
  rw [List.map_map] at this
  obtain ⟨p, hp, e⟩ := List.mem_map.mp this
  exact ⟨p, hp, e.symm⟩
 have tk : ∀ r ∈ qs, r.2.1 = (tkV r).1 /\ r.2.2 = [V.int (tkV r).2] := fun r hr' => by
  obtain ⟨p, _, e⟩ := shape r hr'
  unfold tkV
  rw [e]
  exact ⟨rfl, rfl⟩
 have perm : (qs.map tkV).Perm kvs := by
  have e1 : qs.map tkV = (qs.map (·.2)).map fun z => (z.1, match z.2 with | [.int n] => n | _ => 0) := by
   rw [List.map_map]; rfl
  have e2 : kvs = ((kvs.map fun p => (p.1, V.int p.2)).map fun p => (p.1, [p.2])).map fun z => (z.1, match z.2 with | [.int n] => n | _ => 0) := by
   rw [List.map_map, List.map_map]
   exact (List.map_id kvs).symm
  rw [e1]
  rw [e2]
  exact pq.map _
 have can : aR (qs.map tkV) := ⟨List.pairwise_map.mpr (pw.imp fun {x y} h => h), fun p hp => hall p (perm.mem_iff.mp hp)⟩
 refine q _ (.ref t) (qs.map tkV) (s1.trans (s12.trans s3)) ?_ can (fun x => ?_) ?_
 ·simp only [Rep]
  refine ⟨t, _, rfl, ab, cg fun r hr' => ?_⟩
  have := (hq r hr').1
  rw [(tk r hr').1, (tk r hr').2] at this
  exact s3 _ _ this
 ·rw [fA can.pw perm x, ht x, lus, List.take_length]
 ·rw [perm.length_eq]; omega
def kD : Sp := fun vs H Q _ => ∃ (v u : V) (c d : Int) (ps rs : List Pr), vs = [v, u] /\ Rep H (aN c ps) v /\ Rep H (aN d rs) u /\ aR ps /\ aR rs /\ ps.length <= 40 /\ rs.length <= 20 /\
 ∀ (H' : Hp) (w : V) (qs : List Pr), ao H H' -> Rep H' (aN (c + d) qs) w -> aR qs -> (∀ x, tm qs x = tm ps x + tm rs x) -> qs.length <= ps.length + rs.length -> Q w H'
theorem rE : aW ["a", "b"] ["a", "b"] (aj eY) := ⟨rfl, rfl, rfl, by decide +kernel, rfl, by decide +kernel, by decide +kernel⟩
theorem sE {f : Addr} {fd : FuncData} {k : Nat} (F : Fun K "added" "added" eY f fd) (T : Txt K mg) (Dgathered : Def P w K mg base k "gathered" ["parts"] lN) : br P w K mg base CX0 (k + 1) f fd ["a", "b"] kD := by
 refine F.ok rE (fun vs H Q E h => ?_) (fun cdv A outer s H vs Q E hr h => ?_)
 ·obtain ⟨v, u, c, d, ps, rs, rfl, _⟩ := h
  rfl
 obtain ⟨v, u, c, d, ps, rs, rfl, R1, R2, C1, C2, l1, l2, q⟩ := h
 obtain ⟨a, a1, us, rfl, ha, ha1, ru, lu⟩ := bn R1
 obtain ⟨b, b1, ws, rfl, hb, hb1, rw', lw⟩ := bn R2
 refine ⟨_, (@ak _ _ _ (@aE _ _ _ _ (@av _ _ _ _ _ (@aa _ _ _ _ _ (@au _ _ _ _ _ _ _ _ bw (@ar _ _ _ _ _ _ _ ap (@pv _ 0 _ _ (by rfl) (by trivial) (by decide) (by decide)) (@ad _ _ _ _) (fun _ _ => rfl)) (@ar _ _ _ _ _ _ _ ap (@pv _ 1 _ _ (by rfl) (by trivial) (by decide) (by decide)) (@ad _ _ _ _) (fun _ _ => rfl))) (@aa _ _ _ _ _ (@aI _ _ _ _ _ _ _ _ _ _ Dgathered hr rfl (@aa _ _ _ _ _ (@au _ _ _ _ _ _ _ _ ir (@ar _ _ _ _ _ _ _ ap (@pv _ 0 _ _ (by rfl) (by trivial) (by decide) (by decide)) (@ad _ _ _ _) (fun _ _ => rfl)) (@ar _ _ _ _ _ _ _ ap (@pv _ 1 _ _ (by rfl) (by trivial) (by decide) (by decide)) (@ad _ _ _ _) (fun _ _ => rfl))) (@ae _) (by rfl)) (by decide) (by rfl) (by rfl)) (@ae _) (by rfl)) (by rfl))))), ?_⟩
 refine ⟨_, rfl, a, _, 0, .int c, rfl, rfl, SqT.of ha, ah (j := 0) rfl, _, rfl, b, _, 0, .int d, rfl, rfl, SqT.of hb, ah (j := 0) rfl, _, _, rfl, rfl, ?_⟩
 refine ⟨_, rfl, a, _, 1, .ref a1, rfl, rfl, SqT.of ha, ah (j := 1) rfl, _, rfl, b, _, 1, .ref b1, rfl, rfl, SqT.of hb, ah (j := 1) rfl, a1, b1, us, ws, rfl, rfl, SqT.of ha1, SqT.of hb1, by rw [lu, lw, sizeLine_eq]; omega, ?_⟩
 have fin : ∀ (H1 : Hp) (x : V), ao H H1 -> Rep H1 (.tup (aV (ps ++ rs))) x -> lN [x] H1 (fun y H2 => 2 <= sizeLine /\ ∀ p, H2 p = none -> Q (.ref p) (upd H2 p (.tup [.int (c + d), y]))) E0 := fun H1 x s1 Rx => by
  refine ⟨x, ps ++ rs, rfl, Rx, fun p hp => ?_, by rw [List.length_append]; omega, fun H2 y qs s2 Ry Cq ht hl => ⟨by rw [sizeLine_eq]; decide, fun p hp => ?_⟩⟩
  ·rcases List.mem_append.mp hp with hp | hp
   ·exact C1.ge p hp
   ·exact C2.ge p hp
  ·have s3 : ao H2 (upd H2 p (.tup [.int (c + d), y])) := ac hp _
   obtain ⟨y1, ys, rfl, hy, ry⟩ := Rep.tup_inv Ry
   refine q _ _ qs (s1.trans (s2.trans s3)) (dc ab (s3 _ _ hy) (ry.mono s3)) Cq (fun x => ?_) (by rw [List.length_append] at hl; exact hl)
   rw [ht x, gP, iu (aD C1.pw), iu (aD C2.pw)]
 refine ⟨fun e => ?_, fun e => ?_, fun p hp => ?_⟩
 ·have e1 : ps = [] := List.eq_nil_of_length_eq_zero (by rw [<- lu, e]; rfl)
  subst e1
  exact fin H (.ref b1) (ao.refl _) (by simp only [Rep]; exact ⟨b1, ws, rfl, hb1, rw'⟩)
 ·have e1 : rs = [] := List.eq_nil_of_length_eq_zero (by rw [<- lw, e]; rfl)
  subst e1
  exact fin H (.ref a1) (ao.refl _) (by rw [List.append_nil]; simp only [Rep]; exact ⟨a1, us, rfl, ha1, ru⟩)
 ·have s1 : ao H (upd H p (.tup (us ++ ws))) := ac hp _
  refine fin _ (.ref p) s1 ?_
  simp only [Rep]
  refine ⟨p, us ++ ws, rfl, ab, ?_⟩
  have e : aV (ps ++ rs) = aV ps ++ aV rs := List.map_append
  rw [e]
  exact Reps.append (ru.mono s1) (rw'.mono s1)
end
abbrev cf : Stmt := top 1
abbrev cN : Stmt := top 2
abbrev fe : Stmt := top 5
def kY : Sp := fun vs H Q _ => ∃ (v : V) (n c : Int) (ps : List Pr), vs = [v, .int n] /\ Rep H (aN c ps) v /\ ps.length <= 40 /\ 0 <= n /\ IntMulOk c n /\ (∀ p ∈ ps, IntMulOk p.2 n) /\
 ∀ (H' : Hp) (w : V), ao H H' -> Rep H' (aN (c * n) (if n = 0 then [] else ps.map fun p => (p.1, p.2 * n))) w -> Q w H'
def fC : Sp := fun vs H Q _ => ∃ c : Int, vs = [.int c] /\ ∀ (H' : Hp) (w : V), ao H H' -> Rep H' (aN c []) w -> Q w H'
def fS : Sp := fun vs H Q _ => ∃ (x : Str) (n : Int), vs = [.str x, .int n] /\ ∀ (H' : Hp) (w : V), ao H H' -> Rep H' (aN 0 (if n = 0 then [] else [(x, n)])) w -> Q w H'
section
variable {P : Program} {w : World} {K : PySem.W.Frag} {mg : Str -> Option Value} {base : Heap}
theorem ln : aW ["n"] ["n"] (aj cf) := ⟨rfl, rfl, rfl, by decide +kernel, rfl, by decide +kernel, by decide +kernel⟩
theorem lW {f : Addr} {fd : FuncData} (F : Fun K "of_number" "of_number" cf f fd) (T : Txt K mg) : br P w K mg base CX0 1 f fd ["n"] fC := by
 refine F.ok ln (fun vs H Q E h => ?_) (fun cdv A outer s H vs Q E hr h => ?_)
 ·obtain ⟨c, rfl, _⟩ := h
  rfl
 obtain ⟨c, rfl, q⟩ := h
 refine ⟨_, (@ak _ _ _ (@aE _ _ _ _ (@av _ _ _ _ _ (@aa _ _ _ _ _ (@pv _ 0 _ _ (by rfl) (by trivial) (by decide) (by decide)) (@aa _ _ _ _ _ (@av _ _ _ _ _ (@ae _)) (@ae _) (by rfl)) (by rfl))))), ?_⟩
 refine ⟨_, rfl, Nat.zero_le _, fun p hp => ⟨z2, fun r hr' => ?_⟩⟩
 exact q _ _ ((ac hp _).trans (ac hr' _)) (fU (ac hr' _ _ _ ab) ab)
theorem nE : aW ["name", "times"] ["name", "times"] (aj cN) := ⟨rfl, rfl, rfl, by decide +kernel, rfl, by decide +kernel, by decide +kernel⟩
theorem iM {f : Addr} {fd : FuncData} {dV : Value} (F : qh K "of_name" "of_name" cN f fd dV) (T : Txt K mg) : br P w K mg base CX0 1 f fd ["name", "times"] fS := by
 refine F.ok nE (fun vs H Q E h => ?_) (fun cdv A outer s H vs Q E hr h => ?_)
 ·obtain ⟨x, n, rfl, _⟩ := h
  rfl
 obtain ⟨x, n, rfl, q⟩ := h
 refine ⟨_, (@ag _ _ _ _ _ (@bi _ _ _ _ _ _ _ _ (@aB _ _ _ _ _ _ _ _ bH (@pv _ 1 _ _ (by rfl) (by trivial) (by decide) (by decide)) (@ad _ _ _ _) (aO _)) (@ak _ _ _ (@aE _ _ _ _ (@av _ _ _ _ _ (@aa _ _ _ _ _ (@ad _ _ _ _) (@aa _ _ _ _ _ (@av _ _ _ _ _ (@ae _)) (@ae _) (by rfl)) (by rfl))))) (@aS _)) (@ak _ _ _ (@aE _ _ _ _ (@av _ _ _ _ _ (@aa _ _ _ _ _ (@ad _ _ _ _) (@aa _ _ _ _ _ (@av _ _ _ _ _ (@aa _ _ _ _ _ (@av _ _ _ _ _ (@aa _ _ _ _ _ (@pv _ 0 _ _ (by rfl) (by trivial) (by decide) (by decide)) (@aa _ _ _ _ _ (@pv _ 1 _ _ (by rfl) (by trivial) (by decide) (by decide)) (@ae _) (by rfl)) (by rfl))) (@ae _) (by rfl))) (@ae _) (by rfl)) (by rfl)))))), ?_⟩
 refine ⟨_, rfl, rfl, _, rfl, bm (fun h => ?_) (fun h => ?_)⟩
 ·have e := eqI h
  rw [if_pos e] at q
  refine ⟨Nat.zero_le _, fun p hp => ⟨z2, fun r hr' => ?_⟩⟩
  exact q _ _ ((ac hp _).trans (ac hr' _)) (fU (ac hr' _ _ _ ab) ab)
 ·have e := neI h
  rw [if_neg e] at q
  refine ⟨_, rfl, _, rfl, z2, fun p hp => ⟨z1, fun p2 hp2 => ⟨z2, fun r hr' => ?_⟩⟩⟩
  have s2 := ac hp2 (.tup [.ref p])
  have s3 := ac hr' (.tup [.int 0, .ref p2])
  exact q _ _ ((ac hp _).trans (s2.trans s3)) (ii (s3 _ _ (s2 _ _ ab)) (s3 _ _ ab) ab)
theorem rZ : aW ["a", "n"] ["a", "n"] (aj fe) := ⟨rfl, rfl, rfl, by decide +kernel, rfl, by decide +kernel, by decide +kernel⟩
theorem ss {f : Addr} {fd : FuncData} (F : Fun K "often" "often" fe f fd) (T : Txt K mg) : br P w K mg base CX0 1 f fd ["a", "n"] kY := by
 refine F.ok rZ (fun vs H Q E h => ?_) (fun cdv A outer s H vs Q E hr h => ?_)
 ·obtain ⟨v, n, c, ps, rfl, _⟩ := h
  rfl
 obtain ⟨v, n, c, ps, rfl, R, h40, n0, hcm, cm, q⟩ := h
 obtain ⟨a, a1, us, rfl, ha, ha1, ru, lu⟩ := bn R
 refine ⟨_, (@ag _ _ _ _ _ (@bi _ _ _ _ _ _ _ _ (@aB _ _ _ _ _ _ _ _ bH (@pv _ 1 _ _ (by rfl) (by trivial) (by decide) (by decide)) (@ad _ _ _ _) (aO _)) (@ak _ _ _ (@aE _ _ _ _ (@av _ _ _ _ _ (@aa _ _ _ _ _ (@ad _ _ _ _) (@aa _ _ _ _ _ (@av _ _ _ _ _ (@ae _)) (@ae _) (by rfl)) (by rfl))))) (@aS _)) (@ak _ _ _ (@aE _ _ _ _ (@av _ _ _ _ _ (@aa _ _ _ _ _ (@au _ _ _ _ _ _ _ _ pR (@ar _ _ _ _ _ _ _ ap (@pv _ 0 _ _ (by rfl) (by trivial) (by decide) (by decide)) (@ad _ _ _ _) (fun _ _ => rfl)) (@pv _ 1 _ _ (by rfl) (by trivial) (by decide) (by decide))) (@aa _ _ _ _ _ (@aZ _ _ _ _ _ _ _ _ _ ba rfl T.tuple (by decide +kernel) (@aa _ _ _ _ _ (@dq _ _ (["name", "times"]) ([1]) _ _ _ _ _ _ _ _ _ (@bX _ _ _ _ (@ar _ _ _ _ _ _ _ ap (@pv _ 0 _ _ (by rfl) (by trivial) (by decide) (by decide)) (@ad _ _ _ _) (fun _ _ => rfl))) (.of rfl) rfl (fun _ _ _ => bT rfl (@aQ _ _ _ _ _ (@aG _ _ (0) _ (bL (l := ["name", "times", "n"]) ((by decide +kernel)) rfl) rfl (Or.inl rfl) (by trivial)) (@aQ _ _ _ _ _ (@aG _ _ (1) _ (bL (l := ["name", "times", "n"]) ((by decide +kernel)) rfl) rfl (Or.inl rfl) (by trivial)) (@bA _) (by rfl)) (by rfl))) (gH (by decide) (by decide)) (fun _ _ _ => (@cu _)) (fun _ _ _ => (@av _ _ _ _ _ (@aa _ _ _ _ _ (@pv _ 0 _ _ (by rfl) (by trivial) (by decide) (by decide)) (@aa _ _ _ _ _ (@au _ _ _ _ _ _ _ _ pR (@pv _ 1 _ _ (by rfl) (by trivial) (by decide) (by decide)) (@pv _ 2 _ _ (by rfl) (by trivial) (by decide) (by decide))) (@ae _) (by rfl)) (by rfl)))) (by intro _; rfl)) (@ae _) (by rfl)) (by decide) (by decide) (by rfl) (by rfl)) (@ae _) (by rfl)) (by rfl)))))), ?_⟩
 refine ⟨_, rfl, rfl, _, rfl, bm (fun h => ?_) (fun h => ?_)⟩
 ·have e := eqI h
  rw [if_pos e, e, Int.mul_zero] at q
  refine ⟨Nat.zero_le _, fun p hp => ⟨z2, fun r hr' => ?_⟩⟩
  exact q _ _ ((ac hp _).trans (ac hr' _)) (fU (ac hr' _ _ _ ab) ab)
 ·have e := neI h
  rw [if_neg e] at q
  refine ⟨_, rfl, a, _, 0, .int c, rfl, rfl, SqT.of ha, ah (j := 0) rfl, _, rfl, _, _, rfl, rfl, hcm, _, rfl, a, _, 1, .ref a1, rfl, rfl, SqT.of ha, ah (j := 1) rfl, a1, rfl, ⟨us, SqT.of ha1⟩, ?_⟩
  refine cY (xs := us) (fun i ys H' => ∃ rs : List TK, ys = rs.map (fun r => V.ref r.1) /\ ao H H' /\ (∀ r ∈ rs, H' r.1 = some (.tup [.str (tkV r).1, .int (tkV r).2])) /\ rs.map tkV = (ps.take i).map fun p => (p.1, p.2 * n)) ⟨[], rfl, ao.refl _, by simp, by simp⟩ (fun i ys H' _ ⟨_, _, s1, _⟩ => SqT.of (s1 _ _ ha1)) ?_ ?_
  ·rintro i ys H1 x hx ⟨rs, rfl, s1, t1, e1⟩
   obtain ⟨p, b, hp, rfl, hb⟩ := bO ru hx
   have hi : i < us.length := (List.getElem?_eq_some_iff.mp hx).1
   have hrs : rs.length <= 40 := by
    have := congrArg List.length e1
    simp only [List.length_map, List.length_take] at this
    omega
   refine eQ (s1 _ _ hb) ⟨_, rfl, _, rfl, _, rfl, _, _, rfl, rfl, cm p (List.mem_of_getElem? hp), z2, fun t ht => ⟨by rw [List.length_map, sizeLine_eq]; omega, rs ++ [(t, p.1, [.int (p.2 * n)])], by simp, s1.trans (ac ht _), fun r hr' => ?_, ?_⟩⟩
   ·rcases List.mem_append.mp hr' with h | h
    ·exact ac ht _ _ _ (t1 r h)
    ·have e2 := List.mem_singleton.mp h
     subst e2
     exact ab
   ·rw [List.map_append, e1, List.take_add_one, hp, List.map_append]
    rfl
  ·rintro ys H1 ⟨rs, rfl, s1, t1, e1⟩ l hl
   rw [lu, List.take_length] at e1
   refine ⟨l, _, rfl, .inl ⟨SqL.of ab, fun t ht => ⟨z2, fun r hr' => ?_⟩⟩⟩
   have s2 := ac hl (.lst (rs.map fun r => V.ref r.1))
   have s3 := ac ht (.tup (rs.map fun r => V.ref r.1))
   have s4 := ac hr' (.tup [.int (c * n), .ref t])
   refine q _ _ (s1.trans (s2.trans (s3.trans s4))) ?_
   rw [<- e1]
   exact dc ab (s4 _ _ ab) (cg fun r hr'' => s4 _ _ (s3 _ _ (s2 _ _ (t1 r hr''))))
end
abbrev jR : Stmt := top 7
abbrev En := Str × V × Pl
def enK (en : List En) : List (Key × V) := en.map fun e => (Sum.inr e.1, e.2.1)
def cp (en : List En) : Pls := fun x => match en.find? (fun e => decide (e.1 = x)) with | some e => e.2.2 | none => ⟨0, [(x, 1)]⟩
structure lB (p : Pl) : Prop where
 can : aR p.ps
 len : p.ps.length <= 6
 c0 : 0 <= p.c
 c1 : p.c <= 64 * 10 ^ 58
 le : ∀ q ∈ p.ps, q.2 <= 10 ^ 58
structure gZ (H : Hp) (en : List En) : Prop where
 all : ∀ e ∈ en, Rep H (aN e.2.2.c e.2.2.ps) e.2.1 /\ lB e.2.2 /\ ∃ b, e.2.1 = .ref b
theorem gZ.mono {H H' : Hp} {en : List En} (h : gZ H en) (s : ao H H') : gZ H' en := ⟨fun e he => ⟨(h.all e he).1.mono s, (h.all e he).2⟩⟩
theorem qW (x : Str) : lB ⟨0, [(x, 1)]⟩ := ⟨⟨List.pairwise_singleton _ _, fun p hp => by rw [List.mem_singleton.mp hp]; exact Int.le_refl 1⟩, by show 1 <= 6; decide, by show (0 : Int) <= 0; decide, by show (0 : Int) <= 64 * 10 ^ 58; decide, fun q hq => by rw [List.mem_singleton.mp hq]; show (1 : Int) <= 10 ^ 58; decide⟩
theorem jU {H : Hp} {en : List En} (h : gZ H en) (x : Str) : lB (cp en x) := by
 unfold cp
 cases e : en.find? (fun e => decide (e.1 = x)) with
 | none => exact qW x
 | some y => exact (h.all y (List.mem_of_find?_eq_some e)).2.1
theorem kq (en : List En) (x : Str) : cw (enK en) (Sum.inr x) = (en.find? (fun e => decide (e.1 = x))).map (·.2.1) := by
 induction en with
 | nil => rfl
 | cons e en ih =>
  rw [List.find?_cons]
  by_cases h : e.1 = x
  ·have e1 : cw (enK (e :: en)) (Sum.inr x) = some e.2.1 := dN (p := (Sum.inr e.1, e.2.1)) (by rw [h])
   rw [e1, decide_eq_true h]; rfl
  ·have e1 : cw (enK (e :: en)) (Sum.inr x) = cw (enK en) (Sum.inr x) := dL (p := (Sum.inr e.1, e.2.1)) (fun z => h (by injection z))
   rw [e1, ih, decide_eq_false h]
theorem tP {H : Hp} {en : List En} (h : gZ H en) (x : Str) {u : V} (R : Rep H (aN 0 [(x, 1)]) u) : Rep H (aN (cp en x).c (cp en x).ps) ((cw (enK en) (Sum.inr x)).getD u) := by
 rw [kq]
 unfold cp
 cases e : en.find? (fun e => decide (e.1 = x)) with
 | none => exact R
 | some y => exact (h.all y (List.mem_of_find?_eq_some e)).1
theorem vv {i j : Int} (h1 : 0 <= i) (h2 : i <= 64 * 10 ^ 58) (h3 : 0 <= j) (h4 : j <= 64 * 10 ^ 58) : IntMulOk i j := uf (by omega) (by omega) (by omega) (by omega)
def rD : Sp := fun vs H Q _ => ∃ (v : V) (d : Addr) (c : Int) (ps : List Pr) (en : List En), vs = [v, .ref d] /\ Rep H (aN c ps) v /\ aR ps /\ ps.length <= 5 /\ (∀ p ∈ ps, p.2 <= 10 ^ 58) /\ H d = some (.dK (enK en)) /\ gZ H en /\
 ∀ (H' : Hp) (w : V) (C : Int) (qs : List Pr), ao H H' -> Rep H' (aN C qs) w -> aR qs -> C = c + dJ (cp en) ps -> (∀ x, tm qs x = cK (cp en) ps x) -> (∀ num, W num qs = nW (cp en) num ps) -> qs.length <= 30 -> Q w H'
section
variable {P : Program} {w : World} {K : PySem.W.Frag} {mg : Str -> Option Value} {base : Heap}
theorem sR : aW ["a", "places", "total", "name", "times"] ["a", "places"] (aj jR) := ⟨rfl, rfl, rfl, by decide +kernel, rfl, by decide +kernel, by decide +kernel⟩
theorem wu {f : Addr} {fd : FuncData} {k : Nat} (F : Fun K "put" "put" jR f fd) (T : Txt K mg) (Dof_number : Def P w K mg base k "of_number" ["n"] fC) (Dadded : Def P w K mg base k "added" ["a", "b"] kD)
  (Doften : Def P w K mg base k "often" ["a", "n"] kY) (Eof_name : qp P w K mg base k "of_name" ["name", "times"] fS [.int 1]) : br P w K mg base CX0 (k + 1) f fd ["a", "places"] rD := by
 have nd : (["a", "places", "total", "name", "times"] : List Str).Nodup := sR.nd
 refine F.ok sR (fun vs H Q E h => ?_) (fun cdv A outer s H vs Q E hr h => ?_)
 ·obtain ⟨v, d, c, ps, en, rfl, _⟩ := h
  rfl
 obtain ⟨v, d, c, ps, en, rfl, R, C1, l5, hle, hd, hen, q⟩ := h
 have hu := cW hr
 obtain ⟨a, a1, us, rfl, ha, ha1, ru, lu⟩ := bn R
 refine ⟨_, (@ag _ _ _ _ _ (@aM _ _ (2) _ _ _ _ nd rfl (Or.inl rfl) (@aI _ _ _ _ _ _ _ _ _ _ Dof_number hr rfl (@aa _ _ _ _ _ (@ar _ _ _ _ _ _ _ ap (@pv _ 0 _ _ (by rfl) (by trivial) (by decide) (by decide)) (@ad _ _ _ _) (fun _ _ => rfl)) (@ae _) (by rfl)) (by decide) (by rfl) (by rfl)) (by rfl) (by trivial)) (@ag _ _ _ _ _ (@cv _ _ _ _ _ _ _ _ PassesOwn.never rfl (@bX _ _ _ _ (@ar _ _ _ _ _ _ _ ap (@pv _ 0 _ _ (by rfl) (by trivial) (by decide) (by decide)) (@ad _ _ _ _) (fun _ _ => rfl))) (@bT _ _ _ _ _ _ rfl (@aQ _ _ _ _ _ (@aG _ _ (3) _ nd rfl (Or.inl rfl) (by trivial)) (@aQ _ _ _ _ _ (@aG _ _ (4) _ nd rfl (Or.inl rfl) (by trivial)) (@bA _) (by rfl)) (by rfl)) (by rfl) (by rfl)) (@ak _ _ _ (@aM _ _ (2) _ _ _ _ nd rfl (Or.inl rfl) (@aI _ _ _ _ _ _ _ _ _ _ Dadded hr rfl (@aa _ _ _ _ _ (@pv _ 2 _ _ (by rfl) (by trivial) (by decide) (by decide)) (@aa _ _ _ _ _ (@aI _ _ _ _ _ _ _ _ _ _ Doften hr rfl (@aa _ _ _ _ _ (@cD _ _ _ _ _ _ _ _ _ hu (@pv _ 1 _ _ (by rfl) (by trivial) (by decide) (by decide)) (@pv _ 3 _ _ (by rfl) (by trivial) (by decide) (by decide)) (@uu _ _ _ _ _ _ _ _ _ _ _ Eof_name hr rfl (@aa _ _ _ _ _ (@pv _ 3 _ _ (by rfl) (by trivial) (by decide) (by decide)) (@ae _) (by rfl)) (by decide) (by rfl) (by rfl)) ⟨rfl, rfl, rfl, rfl⟩) (@aa _ _ _ _ _ (@pv _ 4 _ _ (by rfl) (by trivial) (by decide) (by decide)) (@ae _) (by rfl)) (by rfl)) (by decide) (by rfl) (by rfl)) (@ae _) (by rfl)) (by rfl)) (by decide) (by rfl) (by rfl)) (by rfl) (by trivial))) (by intro _; rfl)) (@ak _ _ _ (@aE _ _ _ _ (@pv _ 2 _ _ (by rfl) (by trivial) (by decide) (by decide)))))), ?_⟩
 refine ⟨_, rfl, a, _, 0, .int c, rfl, rfl, SqT.of ha, ah (j := 0) rfl, c, rfl, fun H1 w1 s1 R1 => ?_⟩
 refine ⟨_, rfl, a, _, 1, .ref a1, rfl, rfl, SqT.of (s1 _ _ ha), ah (j := 1) rfl, a1, rfl, ⟨us, SqT.of (s1 _ _ ha1)⟩, fK (xs := us) (fun i σ H' => ∃ (u : V) (C : Int) (qs : List Pr) (o3 o4 : Option V), σ = [some (.ref a), some (.ref d), some u, o3, o4] /\ ao H H' /\ Rep H' (aN C qs) u /\ aR qs /\ C = c + dJ (cp en) (ps.take i) /\ (∀ x, tm qs x = cK (cp en) (ps.take i) x) /\ (∀ num, W num qs = nW (cp en) num (ps.take i)) /\ qs.length <= 6 * i)
  ⟨w1, c, [], _, _, rfl, s1, R1, ⟨.nil, by simp⟩, by show c = c + 0; omega, fun x => rfl, fun num => rfl, by simp⟩ (fun i σ H' _ ⟨_, _, _, _, _, _, sx, _⟩ => SqT.of (sx _ _ ha1)) ?T1 ?_⟩
 case T1 =>
  rintro i x σ H2 hx ⟨u, C, qs, o3, o4, rfl, s2, R2, C2, e2, t2, w2, l2⟩
  obtain ⟨p, b, hp, rfl, hb⟩ := bO ru hx
  have hi : i < us.length := (List.getElem?_eq_some_iff.mp hx).1
  have hpm := List.mem_of_getElem? hp
  have p1 := C1.ge p hpm
  have p2 := hle p hpm
  have G := jU hen p.1
  have ht : ps.take (i + 1) = ps.take i ++ [p] := by rw [List.take_add_one, hp]; rfl
  refine ⟨b, _, rfl, SqT.of (s2 _ _ hb), rfl, _, _, rfl, _, _, rfl, rfl, ?_⟩
  refine ⟨_, rfl, _, rfl, d, rfl, .inl ⟨_, .inl (s2 _ _ hd)⟩, _, rfl, _, rfl, p.1, 1, rfl, fun H3 w3 s3 R3 => ?_⟩
  rw [if_neg (by decide)] at R3
  have s03 := s2.trans s3
  refine ⟨_, dC.k (k := Sum.inr p.1) (s03 _ _ hd), _, rfl, ?_⟩
  refine ⟨_, p.2, (cp en p.1).c, (cp en p.1).ps, rfl, tP (hen.mono s03) p.1 R3, by have := G.len; omega, by omega, vv G.c0 G.c1 (by omega) (by omega), fun r hr' => vv (by have := G.can.ge r hr'; omega) (by have := G.le r hr'; omega) (by omega) (by omega), fun H4 w4 s4 R4 => ?_⟩
  rw [if_neg (by omega)] at R4
  have Cs := G.can.scale (n := p.2) p1
  refine ⟨u, w4, C, _, qs, _, rfl, R2.mono (s3.trans s4), R4, C2, Cs, by omega, by rw [List.length_map]; have := G.len; omega, fun H5 w5 rs s5 R5 C5 t5 l5' => ?_⟩
  rw [List.length_map] at l5'
  refine ⟨w5, _, rs, _, _, rfl, s03.trans (s4.trans s5), R5, C5, ?_, fun x => ?_, fun num => ?_, by have := G.len; omega⟩
  ·rw [ht, jG, e2, Int.mul_comm p.2]; omega
  ·rw [ht, jt, t5, t2, mX, Int.mul_comm p.2]
  ·rw [ht, qD, wH num C5 C2 Cs t5, w2, ur]
 rintro σ H2 ⟨u, C, qs, o3, o4, rfl, s2, R2, C2, e2, t2, w2, l2⟩
 rw [lu, List.take_length] at e2 t2 w2
 exact ⟨_, rfl, q H2 u C qs s2 R2 C2 e2 t2 w2 (by omega)⟩
end
abbrev cy : Stmt := top 8
abbrev cP : Stmt := top 9
abbrev cn : Stmt := top 10
def gN : Sp := fun vs H Q _ => ∃ (v : V) (c : Int) (ps : List Pr), vs = [v] /\ Rep H (aN c ps) v /\ ps.length <= 40 /\ ∀ (H' : Hp) (r : Addr), ao H H' -> H' r = some (.lst ((ps.map (·.1)).map V.str)) -> Q (.ref r) H'
def jm (qs : List Str) : List Pr := qs.map fun x => (x, 0)
def gE : Sp := fun vs H Q _ => ∃ (v u : V) (c d : Int) (ps rs : List Pr), vs = [v, u] /\ Rep H (aN c ps) v /\ Rep H (aN d rs) u /\ ps.length <= 20 /\ rs.length <= 20 /\
 ∀ (H' : Hp) (t : Addr) (qs : List Str), ao H H' -> H t = none -> H' t = some (.dK (dk (jm qs))) -> qs.Pairwise vf -> qs.Nodup -> (∀ x, x ∈ qs ↔ x ∈ ps.map (·.1) ++ rs.map (·.1)) -> qs.length <= 40 -> Q (.ref t) H'
def Exc (c d : Int) (ps rs : List Pr) : Prop := d < c \/ ∃ p ∈ ps, tm rs p.1 < p.2
def oP : Sp := fun vs H Q _ => ∃ (v u : V) (c d : Int) (ps rs : List Pr), vs = [v, u] /\ Rep H (aN c ps) v /\ Rep H (aN d rs) u /\ aR ps /\ aR rs /\ ps.length <= 20 /\ rs.length <= 20 /\ (∀ p ∈ ps, p.2 < 10 ^ 60) /\
 (Exc c d ps rs -> ∀ (H' : Hp) (t : Addr), ao H H' -> Q (.ref t) H') /\ (¬ Exc c d ps rs -> ∀ H', ao H H' -> Q .non H')
section
variable {P : Program} {w : World} {K : PySem.W.Frag} {mg : Str -> Option Value} {base : Heap}
theorem mW : aW ["a"] ["a"] (aj cy) := ⟨rfl, rfl, rfl, by decide +kernel, rfl, by decide +kernel, by decide +kernel⟩
theorem mH {f : Addr} {fd : FuncData} (F : Fun K "names_of" "names_of" cy f fd) (T : Txt K mg) : br P w K mg base CX0 1 f fd ["a"] gN := by
 refine F.ok mW (fun vs H Q E h => ?_) (fun cdv A outer s H vs Q E hr h => ?_)
 ·obtain ⟨v, c, ps, rfl, _⟩ := h
  rfl
 obtain ⟨v, c, ps, rfl, R, h40, q⟩ := h
 obtain ⟨a, a1, us, rfl, ha, ha1, ru, lu⟩ := bn R
 refine ⟨_, (@ak _ _ _ (@aE _ _ _ _ (@dq _ _ (["name", "times"]) ([]) _ _ _ _ _ _ _ _ _ (@bX _ _ _ _ (@ar _ _ _ _ _ _ _ ap (@pv _ 0 _ _ (by rfl) (by trivial) (by decide) (by decide)) (@ad _ _ _ _) (fun _ _ => rfl))) (.of rfl) rfl (fun _ _ _ => bT rfl (@aQ _ _ _ _ _ (@aG _ _ (0) _ (bL (l := ["name", "times"]) ((by decide +kernel)) rfl) rfl (Or.inl rfl) (by trivial)) (@aQ _ _ _ _ _ (@aG _ _ (1) _ (bL (l := ["name", "times"]) ((by decide +kernel)) rfl) rfl (Or.inl rfl) (by trivial)) (@bA _) (by rfl)) (by rfl))) (gH (by decide) (by decide)) (fun _ _ _ => (@cu _)) (fun _ _ _ => (@pv _ 0 _ _ (by rfl) (by trivial) (by decide) (by decide))) (by intro _; rfl)))), ?_⟩
 refine ⟨_, rfl, a, _, 1, .ref a1, rfl, rfl, SqT.of ha, ah (j := 1) rfl, a1, rfl, ⟨us, SqT.of ha1⟩, cY (xs := us) (fun i ys H' => H' = H /\ ys = (ps.take i).map fun p => V.str p.1) ⟨rfl, rfl⟩ (fun i ys H' _ p => by rw [p.1]; exact SqT.of ha1) ?_ ?_⟩
 ·rintro i ys H' x hx ⟨rfl, rfl⟩
  obtain ⟨p, b, hp, rfl, hb⟩ := bO ru hx
  have hi : i < us.length := (List.getElem?_eq_some_iff.mp hx).1
  refine eQ hb ⟨_, rfl, ?_, rfl, ?_⟩
  ·rw [List.length_map, List.length_take, sizeLine_eq]; omega
  ·rw [List.take_add_one, hp, List.map_append]; rfl
 ·rintro ys H' ⟨rfl, rfl⟩ r hr'
  refine q _ r (ac hr' _) ?_
  rw [ab, lu, List.take_length, List.map_map]; rfl
theorem iK : aW ["a", "b", "numbers", "name"] ["a", "b"] (aj cP) := ⟨rfl, rfl, rfl, by decide +kernel, rfl, by decide +kernel, by decide +kernel⟩
theorem nK {f : Addr} {fd : FuncData} {k : Nat} (F : Fun K "noughts" "noughts" cP f fd) (T : Txt K mg) (Dnames_of : Def P w K mg base k "names_of" ["a"] gN) : br P w K mg base CX0 (k + 1) f fd ["a", "b"] gE := by
 have nd : (["a", "b", "numbers", "name"] : List Str).Nodup := iK.nd
 refine F.ok iK (fun vs H Q E h => ?_) (fun cdv A outer s H vs Q E hr h => ?_)
 ·obtain ⟨v, u, c, d, ps, rs, rfl, _⟩ := h
  rfl
 obtain ⟨v, u, c, d, ps, rs, rfl, R1, R2, l1, l2, q⟩ := h
 have hu := cW hr
 refine ⟨_, (@ag _ _ _ _ _ (@aM _ _ (2) _ _ _ _ nd rfl (Or.inl rfl) (@dI _ _) (by rfl) (by trivial)) (@ag _ _ _ _ _ (@cv _ _ _ _ _ _ _ _ PassesOwn.never rfl (@io _ _ _ _ (@bt _ _ _ _ _ _ _ _ _ (lF rfl) rfl T.sorted (by decide +kernel) (@aa _ _ _ _ _ (@aZ _ _ _ _ _ _ _ _ _ (pW rfl) rfl T.set (by decide +kernel) (@aa _ _ _ _ _ (@au _ _ _ _ _ _ _ _ uS (@aI _ _ _ _ _ _ _ _ _ _ Dnames_of hr rfl (@aa _ _ _ _ _ (@pv _ 0 _ _ (by rfl) (by trivial) (by decide) (by decide)) (@ae _) (by rfl)) (by decide) (by rfl) (by rfl)) (@aI _ _ _ _ _ _ _ _ _ _ Dnames_of hr rfl (@aa _ _ _ _ _ (@pv _ 1 _ _ (by rfl) (by trivial) (by decide) (by decide)) (@ae _) (by rfl)) (by decide) (by rfl) (by rfl))) (@ae _) (by rfl)) (by decide) (by decide) (by rfl) (by rfl)) (@ae _) (by rfl)) (by decide) (by decide) (by rfl) (by rfl))) (@aG _ _ (3) _ nd rfl (Or.inl rfl) (by trivial)) (@ak _ _ _ (@dg _ _ _ _ _ _ _ _ _ hu (@pv _ 2 _ _ (by rfl) (by trivial) (by decide) (by decide)) (@pv _ 3 _ _ (by rfl) (by trivial) (by decide) (by decide)) (@ad _ _ _ _) rfl)) (by intro _; rfl)) (@ak _ _ _ (@aE _ _ _ _ (@pv _ 2 _ _ (by rfl) (by trivial) (by decide) (by decide)))))), ?_⟩
 refine fun t ht => ?_
 have s0 : ao H (upd H t (.dK [])) := ac ht _
 have t0 : upd H t (.dK []) t = some (.dK []) := ab
 generalize upd H t (.dK []) = H0 at s0 t0 ⊢
 refine ⟨_, rfl, v, c, ps, rfl, R1.mono s0, by omega, fun H1 r1 s1 hr1 => ?_⟩
 refine ⟨_, rfl, u, d, rs, rfl, (R2.mono s0).mono s1, by omega, fun H2 r2 s2 hr2 => ?_⟩
 refine ⟨r1, r2, _, _, rfl, rfl, SqL.of (s2 _ _ hr1), SqL.of hr2, ?_, fun l3 hl3 => ?_⟩
 ·simp only [List.length_map, sizeLine_eq]; omega
 have s3 := ac hl3 (.lst ((ps.map (·.1)).map V.str ++ (rs.map (·.1)).map V.str))
 have h3 : upd H2 l3 (.lst ((ps.map (·.1)).map V.str ++ (rs.map (·.1)).map V.str)) l3 = some (.lst ((ps.map (·.1) ++ rs.map (·.1)).map V.str)) := by rw [ab, List.map_append]
 have s03 := s1.trans (s2.trans s3)
 generalize upd H2 l3 (.lst ((ps.map (·.1)).map V.str ++ (rs.map (·.1)).map V.str)) = H3 at s3 h3 s03 ⊢
 have ly : (ps.map (·.1) ++ rs.map (·.1)).length <= 40 := by simp only [List.length_append, List.length_map]; omega
 refine ⟨l3, ps.map (·.1) ++ rs.map (·.1), rfl, SqL.of h3, by omega, fun S zs hS ndz mz lz => ?_⟩
 refine ⟨S, zs, rfl, ab, ndz, by omega, fun l qs hl pq pw => ?_⟩
 have ndq : qs.Nodup := pq.nodup_iff.mpr ndz
 have lq : qs.length <= 40 := by rw [pq.length_eq]; omega
 have s4 := ac hS (SetO P w S zs)
 have s5 := ac hl (.lst (qs.map V.str))
 have s05 : ao H0 (upd (upd H3 S (SetO P w S zs)) l (.lst (qs.map V.str))) := s03.trans (s4.trans s5)
 have h5 : upd (upd H3 S (SetO P w S zs)) l (.lst (qs.map V.str)) l = some (.lst (qs.map V.str)) := ab
 have lt : l ≠ t := Ne.symm (ai (s4 _ _ (s03 _ _ t0)) hl)
 refine ⟨l, rfl, ⟨_, SqL.of h5⟩, sy (xs := qs.map V.str) (fun i σ H' => ∃ (o1 : Option V), σ = [some v, some u, some (.ref t), o1] /\ (∀ b o, b ≠ t -> upd (upd H3 S (SetO P w S zs)) l (.lst (qs.map V.str)) b = some o -> H' b = some o) /\ H' t = some (.dK (dk (jm (qs.take i)))))
  ⟨_, rfl, fun b o _ e => e, s05 _ _ t0⟩ (fun i σ H' _ ⟨_, _, sx, _⟩ => SqL.of (sx _ _ lt h5)) ?T1 ?_⟩
 case T1 =>
  rintro i x σ H6 hx ⟨o1, rfl, s6, t6⟩
  rw [List.getElem?_map] at hx
  obtain ⟨y, hy, rfl⟩ := Option.map_eq_some_iff.mp hx
  have hti : qs.take (i + 1) = qs.take i ++ [y] := by rw [List.take_add_one, hy]; rfl
  refine ⟨_, rfl, _, rfl, t, _, rfl, gY.k (k := Sum.inr y) t6 ?_, ?_⟩
  ·rw [show (dk (jm (qs.take i))).length = (qs.take i).length by unfold dk jm; rw [List.length_map, List.length_map], List.length_take, sizeLine_eq]; omega
  have hn : y ∉ (jm (qs.take i)).map (·.1) := by
   have e : (jm (qs.take i)).map (·.1) = qs.take i := by unfold jm; rw [List.map_map]; exact List.map_id _
   rw [e]
   have hd : (qs.take (i + 1)).Nodup := (List.take_sublist _ _).nodup ndq
   rw [hti, List.nodup_append] at hd
   exact fun z => hd.2.2 y z y (by simp) rfl
  refine ⟨_, rfl, fun b o hb e => ?_, ?_⟩
  ·rw [aq hb]; exact s6 b o hb e
  ·rw [ab, <- kF, rp hn, hti]
   unfold jm
   rw [List.map_append]; rfl
 rintro σ H6 ⟨o1, rfl, s6, t6⟩
 rw [List.length_map, List.take_length] at t6
 exact ⟨_, rfl, q H6 t qs (fun b o e => s6 b o (ai e ht) (s05 _ _ (s0 _ _ e))) ht t6 pw ndq (fun x => by rw [pq.mem_iff]; exact mz x) lq⟩
theorem gk : aW ["a", "b", "numbers", "other", "name", "times", "gain"] ["a", "b"] (aj cn) := ⟨rfl, rfl, rfl, by decide +kernel, rfl, by decide +kernel, by decide +kernel⟩
theorem lQ {f : Addr} {fd : FuncData} {k : Nat} (F : Fun K "exceeding" "exceeding" cn f fd) (T : Txt K mg) (Dnoughts : Def P w K mg base k "noughts" ["a", "b"] gE) : br P w K mg base CX0 (k + 1) f fd ["a", "b"] oP := by
 have nd : (["a", "b", "numbers", "other", "name", "times", "gain"] : List Str).Nodup := gk.nd
 refine F.ok gk (fun vs H Q E h => ?_) (fun cdv A outer s H vs Q E hr h => ?_)
 ·obtain ⟨v, u, c, d, ps, rs, rfl, _⟩ := h
  rfl
 obtain ⟨v, u, c, d, ps, rs, rfl, R1, R2, C1, C2, l1, l2, hB, qy, qn⟩ := h
 have hu := cW hr
 obtain ⟨a, a1, us, rfl, ha, ha1, ru, lu⟩ := bn R1
 obtain ⟨b, b1, ws, rfl, hb, hb1, rw', lw⟩ := bn R2
 obtain ⟨zs, ez, hz, ndz, ezd⟩ := cX rw' (aD C2.pw)
 refine ⟨_, (@ag _ _ _ _ _ (@aM _ _ (2) _ _ _ _ nd rfl (Or.inl rfl) (@aI _ _ _ _ _ _ _ _ _ _ Dnoughts hr rfl (@aa _ _ _ _ _ (@pv _ 0 _ _ (by rfl) (by trivial) (by decide) (by decide)) (@aa _ _ _ _ _ (@pv _ 1 _ _ (by rfl) (by trivial) (by decide) (by decide)) (@ae _) (by rfl)) (by rfl)) (by decide) (by rfl) (by rfl)) (by rfl) (by trivial)) (@ag _ _ _ _ _ (@bi _ _ _ _ _ _ _ _ (@aB _ _ _ _ _ _ _ _ eF (@ar _ _ _ _ _ _ _ ap (@pv _ 0 _ _ (by rfl) (by trivial) (by decide) (by decide)) (@ad _ _ _ _) (fun _ _ => rfl)) (@ar _ _ _ _ _ _ _ ap (@pv _ 1 _ _ (by rfl) (by trivial) (by decide) (by decide)) (@ad _ _ _ _) (fun _ _ => rfl)) (aO _)) (@ak _ _ _ (@aE _ _ _ _ (@pv _ 2 _ _ (by rfl) (by trivial) (by decide) (by decide)))) (@aS _)) (@ag _ _ _ _ _ (@aM _ _ (3) _ _ _ _ nd rfl (Or.inl rfl) (@aZ _ _ _ _ _ _ _ _ _ (cT rfl) rfl T.dict (by decide +kernel) (@aa _ _ _ _ _ (@ar _ _ _ _ _ _ _ ap (@pv _ 1 _ _ (by rfl) (by trivial) (by decide) (by decide)) (@ad _ _ _ _) (fun _ _ => rfl)) (@ae _) (by rfl)) (by decide) (by decide) (by rfl) (by rfl)) (by rfl) (by trivial)) (@ag _ _ _ _ _ (@cv _ _ _ _ _ _ _ _ PassesOwn.never rfl (@bX _ _ _ _ (@ar _ _ _ _ _ _ _ ap (@pv _ 0 _ _ (by rfl) (by trivial) (by decide) (by decide)) (@ad _ _ _ _) (fun _ _ => rfl))) (@bT _ _ _ _ _ _ rfl (@aQ _ _ _ _ _ (@aG _ _ (4) _ nd rfl (Or.inl rfl) (by trivial)) (@aQ _ _ _ _ _ (@aG _ _ (5) _ nd rfl (Or.inl rfl) (by trivial)) (@bA _) (by rfl)) (by rfl)) (by rfl) (by rfl)) (@ag _ _ _ _ _ (@aM _ _ (6) _ _ _ _ nd rfl (Or.inl rfl) (@au _ _ _ _ _ _ _ _ dA (@pv _ 5 _ _ (by rfl) (by trivial) (by decide) (by decide)) (@cD _ _ _ _ _ _ _ _ _ hu (@pv _ 3 _ _ (by rfl) (by trivial) (by decide) (by decide)) (@pv _ 4 _ _ (by rfl) (by trivial) (by decide) (by decide)) (@ad _ _ _ _) ⟨rfl, rfl, rfl, rfl⟩)) (by rfl) (by trivial)) (@ak _ _ _ (@bi _ _ _ _ _ _ _ _ (@aB _ _ _ _ _ _ _ _ eF (@pv _ 6 _ _ (by rfl) (by trivial) (by decide) (by decide)) (@ad _ _ _ _) (aO _)) (@ag _ _ _ _ _ (@dg _ _ _ _ _ _ _ _ _ hu (@pv _ 2 _ _ (by rfl) (by trivial) (by decide) (by decide)) (@pv _ 4 _ _ (by rfl) (by trivial) (by decide) (by decide)) (@au _ _ _ _ _ _ _ _ bw (@au _ _ _ _ _ _ _ _ eJ (@au _ _ _ _ _ _ _ _ dA (@ar _ _ _ _ _ _ _ ap (@pv _ 1 _ _ (by rfl) (by trivial) (by decide) (by decide)) (@ad _ _ _ _) (fun _ _ => rfl)) (@ar _ _ _ _ _ _ _ ap (@pv _ 0 _ _ (by rfl) (by trivial) (by decide) (by decide)) (@ad _ _ _ _) (fun _ _ => rfl))) (@pv _ 6 _ _ (by rfl) (by trivial) (by decide) (by decide))) (@ad _ _ _ _)) rfl) (@ak _ _ _ (@aE _ _ _ _ (@pv _ 2 _ _ (by rfl) (by trivial) (by decide) (by decide))))) (@aS _)))) (by intro _; rfl)) (@ak _ _ _ (@aE _ _ _ _ (@bW _ _ _))))))), ?_⟩
 refine ⟨_, rfl, _, rfl, .ref a, .ref b, c, d, ps, rs, rfl, R1, R2, l1, l2, fun H1 t qs s1 ht t1 pw ndq mq lq => ?_⟩
 refine ⟨_, rfl, a, _, 0, .int c, rfl, rfl, SqT.of (s1 _ _ ha), ah (j := 0) rfl, _, rfl, b, _, 0, .int d, rfl, rfl, SqT.of (s1 _ _ hb), ah (j := 0) rfl, _, _, rfl, rfl, _, rfl, bm (fun h => ?_) (fun h => ?_)⟩
 ·exact ⟨_, rfl, qy (.inl (of_decide_eq_true h)) H1 t s1⟩
 have hcd : ¬ d < c := fun z => h (decide_eq_true z)
 refine ⟨_, rfl, b, _, 1, .ref b1, rfl, rfl, SqT.of (s1 _ _ hb), ah (j := 1) rfl, b1, zs, rfl, by rw [s1 _ _ hb1, ez], fun p hp => s1 _ _ (hz p hp), ndz, fun o ho => ?_⟩
 rw [ezd]
 have s2 := ac ho (.dK (dk rs))
 have o2 : upd H1 o (.dK (dk rs)) o = some (.dK (dk rs)) := ab
 have s12 : ao H (upd H1 o (.dK (dk rs))) := s1.trans s2
 have t2 := s2 _ _ t1
 generalize upd H1 o (.dK (dk rs)) = H2 at s2 o2 s12 t2 ⊢
 refine ⟨_, rfl, a, _, 1, .ref a1, rfl, rfl, SqT.of (s12 _ _ ha), ah (j := 1) rfl, a1, rfl, ⟨us, SqT.of (s12 _ _ ha1)⟩, fK (xs := us) (fun i σ H' => ∃ (o1 o3 o4 : Option V), σ = [some (.ref a), some (.ref b), some (.ref t), some (.ref o), o1, o3, o4] /\ H' = H2 /\ ∀ p ∈ ps.take i, ¬ tm rs p.1 < p.2)
  ⟨_, _, _, rfl, rfl, by simp⟩ (fun i σ H' _ ⟨_, _, _, _, e, _⟩ => by rw [e]; exact SqT.of (s12 _ _ ha1)) ?T1 ?_⟩
 case T1 =>
  rintro i x σ H3 hx ⟨o1, o3, o4, rfl, rfl, hno⟩
  obtain ⟨p, e, hp, rfl, he⟩ := bO ru hx
  have hpm := List.mem_of_getElem? hp
  have p1 := hB p hpm
  have g0 := bx (fun r hr' => Int.le_trans (by decide) (C2.ge r hr')) p.1
  refine ⟨e, _, rfl, SqT.of (s12 _ _ he), rfl, _, _, rfl, _, _, rfl, rfl, ?_⟩
  refine ⟨_, rfl, _, rfl, o, rfl, .inl ⟨_, .inl o2⟩, _, rfl, _, dC.k (k := Sum.inr p.1) o2, p.2, tm rs p.1, rfl, iY _ _, ?_⟩
  refine ⟨_, rfl, _, _, rfl, rfl, _, rfl, bm (fun hg => ?_) (fun hg => ?_)⟩
  ·have hg' : 0 < p.2 - tm rs p.1 := of_decide_eq_true hg
   refine ⟨_, rfl, b, _, 0, .int d, rfl, rfl, SqT.of (s12 _ _ hb), ah (j := 0) rfl, _, rfl, a, _, 0, .int c, rfl, rfl, SqT.of (s12 _ _ ha), ah (j := 0) rfl, _, _, rfl, rfl, _, rfl, _, _, rfl, rfl, ⟨hg', by omega⟩, _, _, rfl, rfl, _, rfl, _, rfl, t, _, rfl, gY.k (k := Sum.inr p.1) t2 ?_, ?_⟩
   ·rw [show (dk (jm qs)).length = qs.length by unfold dk jm; rw [List.length_map, List.length_map], sizeLine_eq]; omega
   exact ⟨_, rfl, qy (.inr ⟨p, hpm, by omega⟩) _ t fun g ob hg2 => by rw [aq (ai hg2 ht)]; exact s12 _ _ hg2⟩
  ·have hg' : ¬ 0 < p.2 - tm rs p.1 := fun z => hg (decide_eq_true z)
   refine ⟨_, _, _, rfl, rfl, fun r hr' => ?_⟩
   rw [List.take_add_one, hp] at hr'
   rcases List.mem_append.mp hr' with h2 | h2
   ·exact hno r h2
   ·have e2 : r = p := by simpa using h2
    subst e2; omega
 rintro σ H3 ⟨o1, o3, o4, rfl, rfl, hno⟩
 rw [lu, List.take_length] at hno
 exact qn (fun z => z.elim hcd fun ⟨p, hp, h2⟩ => hno p hp h2) _ s12
end
abbrev gu : Stmt := top 6
def dr (rs ps : List Pr) : List Pr := ps.map fun p => (p.1, p.2 - tm rs p.1)
theorem iD {rs : List Pr} {x : Str} : ∀ {ps : List Pr}, (∃ p ∈ ps, p.1 = x) -> tm (dr rs ps) x = tm ps x - tm rs x
 | [], h => by obtain ⟨p, hp, _⟩ := h; cases hp
 | p :: ps, h => by
  show (if p.1 = x then p.2 - tm rs p.1 else tm (dr rs ps) x) = (if p.1 = x then p.2 else tm ps x) - tm rs x
  by_cases e : p.1 = x
  ·rw [if_pos e, if_pos e, e]
  ·rw [if_neg e, if_neg e]
   obtain ⟨r, hr, er⟩ := h
   rcases List.mem_cons.mp hr with rfl | hr
   ·exact absurd er e
   ·exact iD ⟨r, hr, er⟩
theorem nM (rs ps : List Pr) : (dr rs ps).map (·.1) = ps.map (·.1) := by unfold dr; rw [List.map_map]; rfl
theorem vF {c d : Int} {ps rs : List Pr} (C1 : aR ps) (C2 : aR rs) (h : ¬ Exc d c rs ps) (x : Str) : tm rs x <= tm ps x := by
 by_cases e : ∃ p ∈ rs, p.1 = x
 ·obtain ⟨p, hp, rfl⟩ := e
  rw [bI (aD C2.pw) hp]
  exact Int.not_lt.mp fun z => h (.inr ⟨p, hp, z⟩)
 ·rw [bN fun p hp z => e ⟨p, hp, z⟩]
  exact bx (fun r hr => Int.le_trans (by decide) (C1.ge r hr)) x
theorem iE {c d : Int} {ps rs : List Pr} (C1 : aR ps) (C2 : aR rs) (h : ¬ Exc d c rs ps) : aR ((dr rs ps).filter fun p => decide (0 < p.2)) /\ ∀ x, tm ((dr rs ps).filter fun p => decide (0 < p.2)) x = tm ps x - tm rs x := by
 have nd : ((dr rs ps).map (·.1)).Nodup := by rw [nM]; exact aD C1.pw
 refine ⟨⟨?_, fun p hp => ?_⟩, fun x => ?_⟩
 ·refine List.Pairwise.sublist List.filter_sublist ?_
  unfold dr
  exact List.pairwise_map.mpr (C1.pw.imp fun {x y} z => z)
 ·have := of_decide_eq_true (List.mem_filter.mp hp).2
  omega
 ·have hle := vF C1 C2 h x
  rw [jC nd]
  by_cases e : ∃ p ∈ ps, p.1 = x
  ·rw [iD e]
   split <;> omega
  ·have e1 : tm ps x = 0 := bN fun p hp z => e ⟨p, hp, z⟩
   have e2 : tm (dr rs ps) x = 0 := bN fun p hp z => by
    obtain ⟨r, hr, rfl⟩ := List.mem_map.mp hp
    exact e ⟨r, hr, z⟩
   have e3 := bx (fun r hr => Int.le_trans (by decide) (C2.ge r hr)) x
   rw [e1] at hle ⊢
   rw [e2, if_neg (by omega)]
   omega
def gz : Sp := fun vs H Q _ => ∃ (v u : V) (c d : Int) (ps rs : List Pr), vs = [v, u] /\ Rep H (aN c ps) v /\ Rep H (aN d rs) u /\ aR ps /\ aR rs /\ ps.length <= 20 /\ rs.length <= 20 /\ (∀ p ∈ rs, p.2 < 10 ^ 60) /\
 (Exc d c rs ps -> ∀ H', ao H H' -> Q .non H') /\
 (¬ Exc d c rs ps -> ∀ (H' : Hp) (w : V) (qs : List Pr), ao H H' -> Rep H' (aN (c - d) qs) w -> aR qs -> (∀ x, tm qs x = tm ps x - tm rs x) -> qs.length <= 20 -> Q w H')
section
variable {P : Program} {w : World} {K : PySem.W.Frag} {mg : Str -> Option Value} {base : Heap}
theorem pI : aW ["a", "b", "taken", "left"] ["a", "b"] (aj gu) := ⟨rfl, rfl, rfl, by decide +kernel, rfl, by decide +kernel, by decide +kernel⟩
theorem uA {f : Addr} {fd : FuncData} {k : Nat} (F : Fun K "less" "less" gu f fd) (T : Txt K mg) (Dexceeding : Def P w K mg base k "exceeding" ["a", "b"] oP) : br P w K mg base CX0 (k + 1) f fd ["a", "b"] gz := by
 have nd : (["a", "b", "taken", "left"] : List Str).Nodup := pI.nd
 refine F.ok pI (fun vs H Q E h => ?_) (fun cdv A outer s H vs Q E hr h => ?_)
 ·obtain ⟨v, u, c, d, ps, rs, rfl, _⟩ := h
  rfl
 obtain ⟨v, u, c, d, ps, rs, rfl, R1, R2, C1, C2, l1, l2, hB, qe, qn⟩ := h
 have hu := cW hr
 obtain ⟨a, a1, us, rfl, ha, ha1, ru, lu⟩ := bn R1
 obtain ⟨b, b1, ws, rfl, hb, hb1, rw', lw⟩ := bn R2
 obtain ⟨zs, ez, hz, ndz, ezd⟩ := cX rw' (aD C2.pw)
 refine ⟨_, (@ag _ _ _ _ _ (@bi _ _ _ _ _ _ _ _ (@aB _ _ _ _ _ _ _ _ eX (@aI _ _ _ _ _ _ _ _ _ _ Dexceeding hr rfl (@aa _ _ _ _ _ (@pv _ 1 _ _ (by rfl) (by trivial) (by decide) (by decide)) (@aa _ _ _ _ _ (@pv _ 0 _ _ (by rfl) (by trivial) (by decide) (by decide)) (@ae _) (by rfl)) (by rfl)) (by decide) (by rfl) (by rfl)) (@bW _ _ _) (aO _)) (@ak _ _ _ (@aE _ _ _ _ (@bW _ _ _))) (@aS _)) (@ag _ _ _ _ _ (@aM _ _ (2) _ _ _ _ nd rfl (Or.inr rfl) (@aZ _ _ _ _ _ _ _ _ _ (cT rfl) rfl T.dict (by decide +kernel) (@aa _ _ _ _ _ (@ar _ _ _ _ _ _ _ ap (@pv _ 1 _ _ (by rfl) (by trivial) (by decide) (by decide)) (@ad _ _ _ _) (fun _ _ => rfl)) (@ae _) (by rfl)) (by decide) (by decide) (by rfl) (by rfl)) (by rfl) (by trivial)) (@ag _ _ _ _ _ (@oO _ _ (["name", "times"]) ([2]) _ _ _ _ _ _ _ _ _ _ _ (3) _ nd rfl rfl (@bX _ _ _ _ (@ar _ _ _ _ _ _ _ ap (@pv _ 0 _ _ (by rfl) (by trivial) (by decide) (by decide)) (@ad _ _ _ _) (fun _ _ => rfl))) (.of rfl) rfl (fun _ _ _ => bT rfl (@aQ _ _ _ _ _ (@aG _ _ (0) _ (bL (l := ["name", "times", "taken"]) ((by decide +kernel)) rfl) rfl (Or.inl rfl) (by trivial)) (@aQ _ _ _ _ _ (@aG _ _ (1) _ (bL (l := ["name", "times", "taken"]) ((by decide +kernel)) rfl) rfl (Or.inl rfl) (by trivial)) (@bA _) (by rfl)) (by rfl))) (gH (by decide) (by decide)) (fun _ _ _ => (@cu _)) (fun _ _ _ => (@av _ _ _ _ _ (@aa _ _ _ _ _ (@pv _ 0 _ _ (by rfl) (by trivial) (by decide) (by decide)) (@aa _ _ _ _ _ (@au _ _ _ _ _ _ _ _ dA (@pv _ 1 _ _ (by rfl) (by trivial) (by decide) (by decide)) (@cD _ _ _ _ _ _ _ _ _ hu (@pv _ 2 _ _ (by rfl) (by trivial) (by decide) (by decide)) (@pv _ 0 _ _ (by rfl) (by trivial) (by decide) (by decide)) (@ad _ _ _ _) ⟨rfl, rfl, rfl, rfl⟩)) (@ae _) (by rfl)) (by rfl)))) (by rfl) (by intro _; rfl)) (@ak _ _ _ (@aE _ _ _ _ (@av _ _ _ _ _ (@aa _ _ _ _ _ (@au _ _ _ _ _ _ _ _ dA (@ar _ _ _ _ _ _ _ ap (@pv _ 0 _ _ (by rfl) (by trivial) (by decide) (by decide)) (@ad _ _ _ _) (fun _ _ => rfl)) (@ar _ _ _ _ _ _ _ ap (@pv _ 1 _ _ (by rfl) (by trivial) (by decide) (by decide)) (@ad _ _ _ _) (fun _ _ => rfl))) (@aa _ _ _ _ _ (@aZ _ _ _ _ _ _ _ _ _ ba rfl T.tuple (by decide +kernel) (@aa _ _ _ _ _ (@dq _ _ (["part"]) ([]) _ _ _ _ _ _ _ _ _ (@io _ _ _ _ (@pv _ 3 _ _ (by rfl) (by trivial) (by decide) (by decide))) (.of rfl) rfl (fun _ _ _ => aG (i := 0) (bL (l := ["part"]) ((by decide +kernel)) rfl) rfl (Or.inl rfl)) (bK (by decide)) (fun _ _ _ => dR (@aB _ _ _ _ _ _ _ _ eF (@ar _ _ _ _ _ _ _ (fX K rfl) (@pv _ 0 _ _ (by rfl) (by trivial) (by decide) (by decide)) (@ad _ _ _ _) (fun _ _ => rfl)) (@ad _ _ _ _) (aO _))) (fun _ _ _ => (@pv _ 0 _ _ (by rfl) (by trivial) (by decide) (by decide))) (by intro _; rfl)) (@ae _) (by rfl)) (by decide) (by decide) (by rfl) (by rfl)) (@ae _) (by rfl)) (by rfl)))))))), ?_⟩
 refine ⟨_, rfl, _, rfl, .ref b, .ref a, d, c, rs, ps, rfl, R2, R1, C2, C1, l2, l1, hB, fun ex H1 t s1 => ⟨rfl, _, rfl, bm (fun _ => qe ex H1 s1) (fun h => absurd (by simp) h)⟩, fun ne H1 s1 => ⟨rfl, _, rfl, bm (fun h => absurd h (by simp)) (fun _ => ?_)⟩⟩
 refine ⟨_, rfl, b, _, 1, .ref b1, rfl, rfl, SqT.of (s1 _ _ hb), ah (j := 1) rfl, b1, zs, rfl, by rw [s1 _ _ hb1, ez], fun p hp => s1 _ _ (hz p hp), ndz, fun t ht => ?_⟩
 rw [ezd]
 have s2 := s1.trans (ac ht (.dK (dk rs)))
 have t2 : upd H1 t (.dK (dk rs)) t = some (.dK (dk rs)) := ab
 generalize upd H1 t (.dK (dk rs)) = H2 at s2 t2 ⊢
 refine ⟨_, rfl, a, _, 1, .ref a1, rfl, rfl, SqT.of (s2 _ _ ha), ah (j := 1) rfl, a1, rfl, ⟨us, SqT.of (s2 _ _ ha1)⟩, ?_⟩
 refine cY (xs := us) (fun i ys H' => ∃ es : List TK, ys = es.map (fun r => V.ref r.1) /\ ao H2 H' /\ (∀ r ∈ es, H' r.1 = some (.tup [.str (tkV r).1, .int (tkV r).2])) /\ es.map tkV = dr rs (ps.take i)) ⟨[], rfl, ao.refl _, by simp, by simp [dr]⟩ (fun i ys H' _ ⟨_, _, sx, _⟩ => SqT.of (sx _ _ (s2 _ _ ha1))) ?_ ?_
 ·rintro i ys H3 x hx ⟨es, rfl, s3, t3, e3⟩
  obtain ⟨p, e, hp, rfl, he⟩ := bO ru hx
  have hi : i < us.length := (List.getElem?_eq_some_iff.mp hx).1
  have hrs : es.length <= 40 := by
   have := congrArg List.length e3
   simp only [dr, List.length_map, List.length_take] at this
   omega
  refine eQ (s3 _ _ (s2 _ _ he)) ⟨_, rfl, _, rfl, _, rfl, t, rfl, .inl ⟨_, .inl (s3 _ _ t2)⟩, _, rfl, _, dC.k (k := Sum.inr p.1) (s3 _ _ t2), p.2, tm rs p.1, rfl, iY _ _, z2, fun g hg => ⟨by rw [List.length_map, sizeLine_eq]; omega, es ++ [(g, p.1, [.int (p.2 - tm rs p.1)])], by simp, s3.trans (ac hg _), fun r hr' => ?_, ?_⟩⟩
  ·rcases List.mem_append.mp hr' with h | h
   ·exact ac hg _ _ _ (t3 r h)
   ·have e2 := List.mem_singleton.mp h
    subst e2
    exact ab
  ·rw [List.map_append, e3, List.take_add_one, hp]
   unfold dr
   rw [List.map_append]
   rfl
 rintro ys H3 ⟨es, rfl, s3, t3, e3⟩ l hl
 rw [lu, List.take_length] at e3
 have les : es.length <= 20 := by
  have := congrArg List.length e3
  simp only [dr, List.length_map] at this
  omega
 have s4 := ac hl (.lst (es.map fun r => V.ref r.1))
 have h4 : upd H3 l (.lst (es.map fun r => V.ref r.1)) l = some (.lst (es.map fun r => V.ref r.1)) := ab
 have s04 : ao H (upd H3 l (.lst (es.map fun r => V.ref r.1))) := s2.trans (s3.trans s4)
 have t4 : ∀ r ∈ es, upd H3 l (.lst (es.map fun r => V.ref r.1)) r.1 = some (.tup [.str (tkV r).1, .int (tkV r).2]) := fun r hr' => s4 _ _ (t3 r hr')
 generalize upd H3 l (.lst (es.map fun r => V.ref r.1)) = H4 at s4 h4 s04 t4 ⊢
 refine ⟨_, rfl, a, _, 0, .int c, rfl, rfl, SqT.of (s04 _ _ ha), ah (j := 0) rfl, _, rfl, b, _, 0, .int d, rfl, rfl, SqT.of (s04 _ _ hb), ah (j := 0) rfl, _, _, rfl, rfl, _, rfl, l, rfl, ⟨_, SqL.of h4⟩, ?_⟩
 refine ke (xs := es.map fun r => V.ref r.1) (fun i ys H' => H' = H4 /\ ∃ fs : List TK, ys = fs.map (fun r => V.ref r.1) /\ fs = (es.take i).filter fun r => decide (0 < (tkV r).2)) ⟨rfl, [], rfl, by simp⟩ (fun i ys H' _ p => by rw [p.1]; exact SqL.of h4) ?_ ?_
 ·rintro i ys H5 x hx ⟨rfl, fs, rfl, ef⟩
  rw [List.getElem?_map] at hx
  obtain ⟨r, hr', rfl⟩ := Option.map_eq_some_iff.mp hx
  have hrm := List.mem_of_getElem? hr'
  have hti : es.take (i + 1) = es.take i ++ [r] := by rw [List.take_add_one, hr']; rfl
  have lf : fs.length <= 20 := by
   rw [ef]
   refine Nat.le_trans (List.length_filter_le _ _) ?_
   rw [List.length_take]; omega
  refine eW ⟨_, rfl, r.1, _, 1, .int (tkV r).2, rfl, rfl, SqT.of (t4 r hrm), ah (j := 1) rfl, _, _, rfl, rfl, _, rfl, ?_⟩
  by_cases hp0 : 0 < (tkV r).2
  ·rw [decide_eq_true hp0]
   refine bR ⟨_, rfl, by rw [List.length_map, sizeLine_eq]; omega, rfl, fs ++ [r], by simp, ?_⟩
   rw [hti, List.filter_append, ef]
   simp [hp0]
  ·rw [decide_eq_false hp0]
   refine cr ⟨rfl, fs, rfl, ?_⟩
   rw [hti, List.filter_append, ef]
   simp [hp0]
 rintro ys H5 ⟨rfl, fs, rfl, ef⟩ l2' hl2
 rw [List.length_map, List.take_length] at ef
 refine ⟨l2', _, rfl, .inl ⟨SqL.of ab, fun g hg => ⟨z2, fun r hr' => ?_⟩⟩⟩
 have s5 := ac hl2 (.lst (fs.map fun r => V.ref r.1))
 have s6 := ac hg (.tup (fs.map fun r => V.ref r.1))
 have s7 := ac hr' (.tup [.int (c - d), .ref g])
 have efm : fs.map tkV = (dr rs ps).filter fun p => decide (0 < p.2) := by
  rw [<- e3, ef, List.filter_map]; rfl
 obtain ⟨can, tmq⟩ := iE C1 C2 ne
 rw [<- efm] at can tmq
 have inf : ∀ r ∈ fs, r ∈ es := fun r h => by rw [ef] at h; exact (List.mem_filter.mp h).1
 refine qn ne _ _ (fs.map tkV) (s04.trans (s5.trans (s6.trans s7))) ?_ can tmq ?_
 ·exact dc ab (s7 _ _ ab) (cg fun r h => s7 _ _ (s6 _ _ (s5 _ _ (t4 r (inf r h)))))
 ·rw [List.length_map, ef]
  exact Nat.le_trans (List.length_filter_le _ _) les
end
abbrev ci : Stmt := top 12
abbrev cj : Stmt := top 13
abbrev cx : Stmt := top 14
abbrev cc : Stmt := top 15
def mh : Sp := fun vs H Q _ => ∃ (v : V) (k : Kd), vs = [v] /\ Rep H k.dv v /\ ∀ (H' : Hp) (l : Addr) (us : List V), ao H H' -> H l = none -> H' l = some (.lst us) -> Reps H' (k.kids.map Kd.dv) us -> Q (.ref l) H'
def kM : Sp := fun vs H Q _ => ∃ (v : V) (k : Kd), vs = [v] /\ Rep H k.dv v /\ ∀ u, Rep H (gX k.len?) u -> Q u H
def gB (fT : Addr) : Sp := fun vs H Q _ => ∃ (v : V) (k : Kd), vs = [v, .ref fT] /\ Rep H k.dv v /\ k.size <= 100 /\ ∀ (H' : Hp) (l : Addr) (us : List V), ao H H' -> H l = none -> H' l = some (.lst us) -> Reps H' (k.pts.map Kd.dv) us -> Q (.ref l) H'
def fF : Sp := fun vs H Q _ => ∃ (v : V) (k : Kd), vs = [v] /\ Rep H k.dv v /\ k.size <= 100 /\ ∀ (H' : Hp) (l : Addr) (us : List V), ao H H' -> H l = none -> H' l = some (.lst us) -> Reps H' (k.pts.map Kd.dv) us -> Q (.ref l) H'
section
variable {P : Program} {w : World} {K : PySem.W.Frag} {mg : Str -> Option Value} {base : Heap}
theorem lU : aW ["point"] ["point"] (aj ci) := ⟨rfl, rfl, rfl, by decide +kernel, rfl, by decide +kernel, by decide +kernel⟩
theorem lC {f : Addr} {fd : FuncData} (F : Fun K "things_of" "things_of" ci f fd) (T : Txt K mg) : br P w K mg base CX0 1 f fd ["point"] mh := by
 refine F.ok lU (fun vs H Q E h => ?_) (fun cdv A outer s H vs Q E hr h => ?_)
 ·obtain ⟨v, k, rfl, _⟩ := h
  rfl
 obtain ⟨v, k, rfl, R, q⟩ := h
 refine ⟨_, (@ag _ _ _ _ _ (@bi _ _ _ _ _ _ _ _ (@aB _ _ _ _ _ _ _ _ bH (@ar _ _ _ _ _ _ _ ap (@pv _ 0 _ _ (by rfl) (by trivial) (by decide) (by decide)) (@ad _ _ _ _) (fun _ _ => rfl)) (@aY _ _ _ _) (aO _)) (@ak _ _ _ (@aE _ _ _ _ (@bC _ _ _ _ (@aa _ _ _ _ _ (@ar _ _ _ _ _ _ _ ap (@pv _ 0 _ _ (by rfl) (by trivial) (by decide) (by decide)) (@ad _ _ _ _) (fun _ _ => rfl)) (@ae _) (by rfl))))) (@aS _)) (@ag _ _ _ _ _ (@bi _ _ _ _ _ _ _ _ (@aB _ _ _ _ _ _ _ _ bH (@ar _ _ _ _ _ _ _ ap (@pv _ 0 _ _ (by rfl) (by trivial) (by decide) (by decide)) (@ad _ _ _ _) (fun _ _ => rfl)) (@aY _ _ _ _) (aO _)) (@ak _ _ _ (@aE _ _ _ _ (@bC _ _ _ _ (@aa _ _ _ _ _ (@ar _ _ _ _ _ _ _ ap (@pv _ 0 _ _ (by rfl) (by trivial) (by decide) (by decide)) (@ad _ _ _ _) (fun _ _ => rfl)) (@aa _ _ _ _ _ (@ar _ _ _ _ _ _ _ ap (@pv _ 0 _ _ (by rfl) (by trivial) (by decide) (by decide)) (@ad _ _ _ _) (fun _ _ => rfl)) (@ae _) (by rfl)) (by rfl))))) (@aS _)) (@ak _ _ _ (@aE _ _ _ _ (@bC _ _ _ _ (@ae _)))))), ?_⟩
 obtain ⟨a, vs, rfl, ha, hv⟩ := Kd.inv R
 refine ⟨_, rfl, a, _, 0, .str k.word, rfl, rfl, SqT.of ha, ah (j := 0) rfl, rfl, _, rfl, ?_⟩
 cases k with
 | whole =>
  refine bm (fun h => absurd (of_decide_eq_true h) (wne kS)) (fun _ => ⟨_, rfl, a, _, 0, .str "whole", rfl, rfl, SqT.of ha, ah (j := 0) rfl, rfl, _, rfl, bm (fun h => absurd (of_decide_eq_true h) (wne qE)) (fun _ => ⟨Nat.zero_le _, fun l hl => ?_⟩)⟩)
  exact q _ l [] (ac hl _) hl ab (by simp only [Kd.kids, List.map_nil, Reps])
 | place c ps =>
  refine bm (fun h => absurd (of_decide_eq_true h) (wne nJ)) (fun _ => ⟨_, rfl, a, _, 0, .str "place", rfl, rfl, SqT.of ha, ah (j := 0) rfl, rfl, _, rfl, bm (fun h => absurd (of_decide_eq_true h) (wne kE)) (fun _ => ⟨Nat.zero_le _, fun l hl => ?_⟩)⟩)
  exact q _ l [] (ac hl _) hl ab (by simp only [Kd.kids, List.map_nil, Reps])
 | row c ps j =>
  obtain ⟨l1, u, rfl, _, Ru⟩ := hv
  refine bm (fun _ => ⟨_, rfl, a, _, 2, u, rfl, rfl, SqT.of ha, ah (j := 2) rfl, z1, fun l hl => ?_⟩) (fun h => absurd (decide_eq_true rfl) h)
  exact q _ l [u] (ac hl _) hl ab (bb (Ru.mono (ac hl _)))
 | pair i j =>
  obtain ⟨u, w', rfl, Ru, Rw⟩ := hv
  refine bm (fun h => absurd (of_decide_eq_true h) (wne (Ne.symm lr))) (fun _ => ⟨_, rfl, a, _, 0, .str "pair", rfl, rfl, SqT.of ha, ah (j := 0) rfl, rfl, _, rfl, bm (fun _ => ⟨_, rfl, a, _, 1, u, rfl, rfl, SqT.of ha, ah (j := 1) rfl, _, rfl, a, _, 2, w', rfl, rfl, SqT.of ha, ah (j := 2) rfl, z2, fun l hl => ?_⟩) (fun h => absurd (decide_eq_true rfl) h)⟩)
  exact q _ l [u, w'] (ac hl _) hl ab (Reps.append (bb (Ru.mono (ac hl _))) (bb (Rw.mono (ac hl _))))
theorem km : aW ["point"] ["point"] (aj cj) := ⟨rfl, rfl, rfl, by decide +kernel, rfl, by decide +kernel, by decide +kernel⟩
theorem kU {f : Addr} {fd : FuncData} (F : Fun K "length_at" "length_at" cj f fd) (T : Txt K mg) : br P w K mg base CX0 1 f fd ["point"] kM := by
 refine F.ok km (fun vs H Q E h => ?_) (fun cdv A outer s H vs Q E hr h => ?_)
 ·obtain ⟨v, k, rfl, _⟩ := h
  rfl
 obtain ⟨v, k, rfl, R, q⟩ := h
 refine ⟨_, (@ag _ _ _ _ _ (@bi _ _ _ _ _ _ _ _ (@PW.pt _ _ _ (@oU _ _ _ _ _ _ _ (@aB _ _ _ _ _ _ _ _ bH (@ar _ _ _ _ _ _ _ ap (@pv _ 0 _ _ (by rfl) (by trivial) (by decide) (by decide)) (@ad _ _ _ _) (fun _ _ => rfl)) (@aY _ _ _ _) (aO _)) (@kZ _ _ _ _ (@aB _ _ _ _ _ _ _ _ bH (@ar _ _ _ _ _ _ _ ap (@pv _ 0 _ _ (by rfl) (by trivial) (by decide) (by decide)) (@ad _ _ _ _) (fun _ _ => rfl)) (@aY _ _ _ _) (aO _))))) (@ak _ _ _ (@aE _ _ _ _ (@ar _ _ _ _ _ _ _ ap (@pv _ 0 _ _ (by rfl) (by trivial) (by decide) (by decide)) (@ad _ _ _ _) (fun _ _ => rfl)))) (@aS _)) (@ak _ _ _ (@aE _ _ _ _ (@bW _ _ _)))), ?_⟩
 obtain ⟨a, vs, rfl, ha, hv⟩ := Kd.inv R
 refine ⟨_, rfl, a, _, 0, .str k.word, rfl, rfl, SqT.of ha, ah (j := 0) rfl, rfl, _, rfl, ?_⟩
 cases k with
 | whole =>
  refine bm (fun h => absurd (of_decide_eq_true h) (wne nZ)) (fun _ => ⟨_, rfl, a, _, 0, .str "whole", rfl, rfl, SqT.of ha, ah (j := 0) rfl, rfl, _, rfl, bm (fun h => absurd (of_decide_eq_true h) (wne kS)) (fun _ => ?_)⟩)
  exact q .non (by simp only [Kd.len?, gX, Rep])
 | place c ps =>
  obtain ⟨l1, rfl, Rl⟩ := hv
  exact bm (fun _ => bR ⟨_, rfl, a, _, 1, l1, rfl, rfl, SqT.of ha, ah (j := 1) rfl, q l1 Rl⟩) (fun h => absurd (decide_eq_true rfl) h)
 | row c ps j =>
  obtain ⟨l1, u, rfl, Rl, Ru⟩ := hv
  refine bm (fun h => absurd (of_decide_eq_true h) (wne (Ne.symm nJ))) (fun _ => ⟨_, rfl, a, _, 0, .str "row", rfl, rfl, SqT.of ha, ah (j := 0) rfl, rfl, _, rfl, bm (fun _ => ⟨_, rfl, a, _, 1, l1, rfl, rfl, SqT.of ha, ah (j := 1) rfl, q l1 Rl⟩) (fun h => absurd (decide_eq_true rfl) h)⟩)
 | pair i j =>
  refine bm (fun h => absurd (of_decide_eq_true h) (wne (Ne.symm kE))) (fun _ => ⟨_, rfl, a, _, 0, .str "pair", rfl, rfl, SqT.of ha, ah (j := 0) rfl, rfl, _, rfl, bm (fun h => absurd (of_decide_eq_true h) (wne (Ne.symm lr))) (fun _ => ?_)⟩)
  exact q .non (by simp only [Kd.len?, gX, Rep])
theorem gS : aW ["whole", "parts_of", "points", "waiting", "point"] ["whole", "parts_of"] (aj cx) := ⟨rfl, rfl, rfl, by decide +kernel, rfl, by decide +kernel, by decide +kernel⟩
theorem nu {f fT : Addr} {fd fdT : FuncData} {k0 : Nat} (F : Fun K "in_order" "in_order" cx f fd) (T : Txt K mg) (FV : br P w K mg base CX0 k0 fT fdT ["point"] mh) (KV : PySem.W.keepIn K (.ref fT) = true) (BV : fw K fdT ["point"] []) : br P w K mg base CX0 (k0 + 1) f fd ["whole", "parts_of"] (gB fT) := by
 have nd : (["whole", "parts_of", "points", "waiting", "point"] : List Str).Nodup := gS.nd
 refine F.ok gS (fun vs H Q E h => ?_) (fun cdv A outer s H vs Q E hr h => ?_)
 ·obtain ⟨v, k, rfl, _⟩ := h
  rfl
 obtain ⟨v, k, rfl, R, k40, q⟩ := h
 refine ⟨_, (@ag _ _ _ _ _ (@aM _ _ (2) _ _ _ _ nd rfl (Or.inl rfl) (@bC _ _ _ _ (@ae _)) (by rfl) (by trivial)) (@ag _ _ _ _ _ (@aM _ _ (3) _ _ _ _ nd rfl (Or.inl rfl) (@bC _ _ _ _ (@aa _ _ _ _ _ (@pv _ 0 _ _ (by rfl) (by trivial) (by decide) (by decide)) (@ae _) (by rfl))) (by rfl) (by trivial)) (@ag _ _ _ _ _ (@rq _ _ _ _ _ _ PassesOwn.never (@sS _ _ _ (@pv _ 3 _ _ (by rfl) (by trivial) (by decide) (by decide)) (fun _ => rfl)) (@ag _ _ _ _ _ (@aM _ _ (4) _ _ _ _ nd rfl (Or.inl rfl) (@kK _ _ _ _ _ _ _ _ _ PySem.F.plainAttrs_list PySem.F.slot_list_pop PySem.F.type_list_pop rW (@pv _ 3 _ _ (by rfl) (by trivial) (by decide) (by decide)) (by rfl) (by rfl)) (by rfl) (by trivial)) (@ag _ _ _ _ _ (@fZ _ _ _ _ (@mB _ _ _ _ _ _ _ _ _ _ _ _ PySem.F.plainAttrs_list PySem.F.slot_list_append PySem.F.type_list_append ff (@pv _ 2 _ _ (by rfl) (by trivial) (by decide) (by decide)) (@aa _ _ _ _ _ (@pv _ 4 _ _ (by rfl) (by trivial) (by decide) (by decide)) (@ae _) (by rfl)) (by rfl) (by rfl) (by rfl) (by rfl) (by rfl)) (by rfl)) (@ak _ _ _ (@fZ _ _ _ _ (@mB _ _ _ _ _ _ _ _ _ _ _ _ PySem.F.plainAttrs_list PySem.F.slot_list_extend PySem.F.type_list_extend qc (@pv _ 3 _ _ (by rfl) (by trivial) (by decide) (by decide)) (@aa _ _ _ _ _ (@oa _ _ _ _ _ _ _ rfl T.list rfl T.reversed rfl (@sN _ _ _ _ _ _ _ _ _ _ _ _ 1 FV hr KV BV (@aa _ _ _ _ _ (@pv _ 4 _ _ (by rfl) (by trivial) (by decide) (by decide)) (@ae _) (by rfl)) (by rfl) (by trivial) (by decide) (by decide) (by rfl) (by rfl)) (by rfl) (by rfl)) (@ae _) (by rfl)) (by rfl) (by rfl) (by rfl) (by rfl) (by rfl)) (by rfl)))))) (@ak _ _ _ (@aE _ _ _ _ (@pv _ 2 _ _ (by rfl) (by trivial) (by decide) (by decide))))))), ?_⟩
 refine ⟨Nat.zero_le _, fun P1 hP => ?_⟩
 refine ⟨_, rfl, z1, fun W1 hW => ?_⟩
 have q1 := ac hP (.lst [])
 have q2 := ac hW (.lst [v])
 have hPW : P1 ≠ W1 := ai (ab (H := H) (a := P1) (o := .lst [])) hW
 have hWn : H W1 = none := q1.free hW
 refine uH (fun m σ H' => ∃ (o4 : Option V) (dn ws : List Kd) (us vs : List V), σ = [some v, some (.ref fT), some (.ref P1), some (.ref W1), o4] /\ ao H H' /\ H' P1 = some (.lst us) /\ H' W1 = some (.lst vs) /\ Reps H' (dn.map Kd.dv) us /\ Reps H' (ws.map Kd.dv) vs /\ k.pts = dn ++ ws.reverse.flatMap Kd.pts /\ m = (ws.map Kd.size).sum /\ m <= 100) k.size
  ⟨_, [], [k], [], [v], rfl, q1.trans q2, q2 _ _ ab, ab, by simp only [List.map_nil, Reps], bb ((R.mono q1).mono q2), by simp, by simp, k40⟩ ?_ oG
 rintro m σ H1 ⟨o4, dn, ws, us, vs, rfl, s1, p1, w1, R1, R2, ep, rfl, m40⟩
 refine ⟨_, rfl, _, .inl ⟨vs, SqL.of w1, rfl⟩, ?_⟩
 have ldn : us.length <= 100 := by
  have h1 := R1.length
  have h2 := congrArg List.length ep
  rw [Kd.pts_len, List.length_append] at h2
  rw [List.length_map] at h1
  omega
 by_cases ne : ws = []
 ·subst ne
  have e : vs = [] := by simpa only [List.map_nil, Reps] using R2
  subst e
  refine cr ⟨_, rfl, q H1 P1 us s1 hP p1 ?_⟩
  rw [ep]
  simpa using R1
 ·obtain ⟨w0, x, rfl⟩ := uc ne
  rw [List.map_append] at R2
  obtain ⟨v0, u, rfl, Ra, Ru⟩ := ka R2
  have e : (!(v0 ++ [u]).isEmpty) = true := by simp
  rw [e]
  refine bR ?_
  have lv0 : v0.length <= 100 := by
   have h1 := Ra.length
   rw [List.length_map] at h1
   have h2 : ∀ l : List Kd, l.length <= (l.map Kd.size).sum := by
    intro l
    induction l with
    | nil => simp
    | cons y l ih => rw [List.length_cons, List.map_cons, List.sum_cons]; have := y.size_pos; omega
   have h3 := h2 w0
   rw [List.map_append, List.sum_append] at m40
   omega
  refine ⟨_, rfl, .inl ⟨rfl, _, SqL.of w1⟩, W1, _, _, rfl, rfl, w1, mK _ _, ?_⟩
  rw [List.dropLast_concat]
  have s2 := bq.upd H1 W1 (.lst v0)
  have w2 : upd H1 W1 (.lst v0) W1 = some (.lst v0) := ab
  have p2 := s2 _ _ hPW p1
  have t2 : bG H1 _ := s2.tups w1
  generalize upd H1 W1 (.lst v0) = H2 at s2 w2 p2 t2 ⊢
  refine ⟨_, rfl, .inl ⟨rfl, _, SqL.of p2⟩, _, rfl, P1, _, _, rfl, rfl, p2, by rw [sizeLine_eq]; omega, ?_⟩
  have s3 := bq.upd H2 P1 (.lst (us ++ [u]))
  have p3 : upd H2 P1 (.lst (us ++ [u])) P1 = some (.lst (us ++ [u])) := ab
  have w3 := s3 _ _ (Ne.symm hPW) w2
  have t3 : bG H1 _ := t2.trans (s3.tups p2)
  generalize upd H2 P1 (.lst (us ++ [u])) = H3 at s3 p3 w3 t3 ⊢
  refine ⟨_, rfl, .inl ⟨rfl, _, SqL.of w3⟩, rfl, _, rfl, u, x, rfl, Kd.tupS t3 Ru, fun H4 l ks s4 hl h4 R4 => ⟨l, ks, rfl, SqL.of h4, fun a ha => ?_⟩⟩
  have s5 := s4.trans (ac ha (.lst ks.reverse))
  have lks : ks.length <= 2 := by
   have h1 := R4.length
   rw [List.length_map] at h1
   rw [h1]
   cases x <;> simp [Kd.kids]
  refine ⟨W1, a, _, _, rfl, rfl, s5 _ _ w3, ab, by rw [List.length_reverse, sizeLine_eq]; omega, ?_⟩
  have R5 : Reps (upd H4 a (.lst ks.reverse)) (x.kids.reverse.map Kd.dv) ks.reverse := by
   have R4' := R4.mono (ac ha (.lst ks.reverse))
   cases x with
   | whole => simp only [Kd.kids, List.map_nil, Reps] at R4' ⊢; subst R4'; simp [Kd.kids, Reps]
   | place c ps => simp only [Kd.kids, List.map_nil, Reps] at R4' ⊢; subst R4'; simp [Kd.kids, Reps]
   | row c ps j =>
    simp only [Kd.kids, List.map_cons, List.map_nil, Reps] at R4'
    obtain ⟨y, r, rfl, hy, rfl⟩ := R4'
    exact bb hy
   | pair i j =>
    simp only [Kd.kids, List.map_cons, List.map_nil, Reps] at R4'
    obtain ⟨y, r, rfl, hy, z, r2, rfl, hz, rfl⟩ := R4'
    exact Reps.append (bb hz) (bb hy)
  have s6 := bq.upd (upd H4 a (.lst ks.reverse)) W1 (.lst (v0 ++ ks.reverse))
  have t6 : bG H1 _ := t3.trans ((ao.tups s5).trans (s6.tups (s5 _ _ w3)))
  refine ⟨_, ?_, _, dn ++ [x], w0 ++ x.kids.reverse, us ++ [u], v0 ++ ks.reverse, rfl, ?_, s6 _ _ hPW (s5 _ _ p3), ab, ?_, ?_, ?_, rfl, ?_⟩
  ·rw [List.map_append, List.sum_append, List.map_append, List.sum_append]
   have h1 := x.size_kids
   have h2 : (x.kids.reverse.map Kd.size).sum = (x.kids.map Kd.size).sum := by rw [List.map_reverse, List.sum_reverse]
   simp only [List.map_cons, List.map_nil, List.sum_cons, List.sum_nil]
   omega
  ·exact fun g o e => s6 g o (fun z => by rw [z, hWn] at e; cases e) (s5 _ _ (s3 g o (ai e hP) (s2 g o (fun z => by rw [z, hWn] at e; cases e) (s1 g o e))))
  ·rw [List.map_append]
   exact Reps.append (bU (fun d hd v r => by obtain ⟨y, _, rfl⟩ := List.mem_map.mp hd; exact Kd.tupS t6 r) R1) (bb (Kd.tupS t6 Ru))
  ·rw [List.map_append]
   exact Reps.append (bU (fun d hd v r => by obtain ⟨y, _, rfl⟩ := List.mem_map.mp hd; exact Kd.tupS t6 r) Ra) (bU (fun d hd v r => by obtain ⟨y, _, rfl⟩ := List.mem_map.mp hd; exact Kd.tupS (s6.tups (s5 _ _ w3)) r) R5)
  ·rw [ep]
   simp only [List.reverse_append, List.reverse_cons, List.reverse_nil, List.nil_append, List.reverse_reverse, List.flatMap_append, List.flatMap_cons, List.flatMap_nil, List.append_nil, List.singleton_append, List.append_assoc]
   rw [x.pts_kids]
   simp
  ·rw [List.map_append, List.sum_append] at m40 ⊢
   have h1 := x.size_kids
   have h2 : (x.kids.reverse.map Kd.size).sum = (x.kids.map Kd.size).sum := by rw [List.map_reverse, List.sum_reverse]
   simp only [List.map_cons, List.map_nil, List.sum_cons, List.sum_nil] at m40
   omega
theorem kH : aW ["kind"] ["kind"] (aj cc) := ⟨rfl, rfl, rfl, by decide +kernel, rfl, by decide +kernel, by decide +kernel⟩
theorem ki {f fthings_of : Addr} {fd : FuncData} {k0 : Nat} (F : Fun K "points_of" "points_of" cc f fd) (T : Txt K mg) (Din_order : Def P w K mg base k0 "in_order" ["whole", "parts_of"] (gB fthings_of)) (Gthings_of : mg "things_of" = some (.ref fthings_of)) : br P w K mg base CX0 (k0 + 1) f fd ["kind"] fF := by
 refine F.ok kH (fun vs H Q E h => ?_) (fun cdv A outer s H vs Q E hr h => ?_)
 ·obtain ⟨v, k, rfl, _⟩ := h
  rfl
 obtain ⟨v, k, rfl, R, k40, q⟩ := h
 refine ⟨_, (@ak _ _ _ (@aE _ _ _ _ (@aI _ _ _ _ _ _ _ _ _ _ Din_order hr rfl (@aa _ _ _ _ _ (@pv _ 0 _ _ (by rfl) (by trivial) (by decide) (by decide)) (@aa _ _ _ _ _ (@uG _ _ (.ref fthings_of) _ _ rfl Gthings_of rfl (by decide)) (@ae _) (by rfl)) (by rfl)) (by decide) (by rfl) (by rfl)))), ?_⟩
 exact ⟨_, rfl, v, k, rfl, R, k40, q⟩
end
open Classical in
noncomputable def uk (t : Str -> Int) : List Pr := if h : ∃ qs, aR qs /\ ∀ x, tm qs x = t x then h.choose else []
theorem pA {t : Str -> Int} {qs : List Pr} (C : aR qs) (h : ∀ x, tm qs x = t x) : uk t = qs := by
 have e : ∃ qs, aR qs /\ ∀ x, tm qs x = t x := ⟨qs, C, h⟩
 unfold uk
 rw [dif_pos e]
 exact gG e.choose_spec.1 C fun x => by rw [e.choose_spec.2, h]
abbrev ca := List (Str × Pl)
def plS (pls : ca) : Pls := fun x => match pls.find? (fun e => decide (e.1 = x)) with | some e => e.2 | none => ⟨0, [(x, 1)]⟩
def aH (en : List En) : ca := en.map fun e => (e.1, e.2.2)
theorem lR (en : List En) : cp en = plS (aH en) := by
 funext x
 unfold cp plS aH
 rw [List.find?_map]
 have : ((fun e : Str × Pl => decide (e.1 = x)) ∘ fun e : En => (e.1, e.2.2)) = fun e : En => decide (e.1 = x) := rfl
 rw [this]
 cases en.find? (fun e => decide (e.1 = x)) <;> rfl
def aF (bs : List Str) (ps : List Pr) : List Pr := ps.filter fun p => !decide (p.1 ∈ bs)
def bd (bs : List Str) (ps : List Pr) : List Pr := ps.filter fun p => decide (p.1 ∈ bs)
def aA (pls : ca) : List Str := pls.map (·.1)
noncomputable def ck (pls : ca) (c : Int) (ps : List Pr) : Pl := ⟨c + dJ (plS pls) (bd (aA pls) ps), uk (cK (plS pls) (bd (aA pls) ps))⟩
noncomputable def kc (g r : Pl) : Pl := ⟨g.c - r.c, uk fun x => tm g.ps x - tm r.ps x⟩
def plD (p : Pl) : Dv := aN p.c p.ps
open Classical in
noncomputable def bindL (pls : ca) (c : Int) (ps : List Pr) (g : Pl) : Dv ⊕ ca :=
 match aF (aA pls) ps with
 | [] => if ck pls c ps = g then .inr pls else .inl (.tup [.str "parts", plD (ck pls c ps), plD g])
 | p :: _ => if Exc (ck pls c ps).c g.c (ck pls c ps).ps g.ps then .inl (.tup [.str "exceeds", plD (ck pls c ps), plD g]) else .inr (pls ++ [(p.1, kc g (ck pls c ps))])
structure Gd (un : List Str) (p : Pl) : Prop where
 can : aR p.ps
 c0 : 0 <= p.c
 c1 : p.c <= 10 ^ 6
 le : ∀ q ∈ p.ps, q.2 <= 10 ^ 6 /\ q.1 ∈ un
structure Pm (fn : List Str) (c : Int) (ps : List Pr) : Prop where
 can : aR ps
 c0 : 0 <= c
 c1 : c <= 100
 len : ps.length <= 5
 le : ∀ q ∈ ps, q.2 <= 100 /\ q.1 ∈ fn
structure Plc (fn un : List Str) (pls : ca) : Prop where
 nd : (aA pls).Nodup
 fn : ∀ x ∈ aA pls, x ∈ fn
 gd : ∀ e ∈ pls, Gd un e.2
theorem lE {xs ys : List Str} (nd : xs.Nodup) (h : ∀ x ∈ xs, x ∈ ys) : xs.length <= ys.length := length_le_of_nodup_of_subset xs ys nd h
theorem Plc.len {fn un : List Str} {pls : ca} (h : Plc fn un pls) : pls.length <= fn.length := by
 have := lE h.nd h.fn
 rwa [aA, List.length_map] at this
theorem lS {ps : List Pr} {un : List Str} (C : aR ps) (h : ∀ p ∈ ps, p.1 ∈ un) : ps.length <= un.length := by
 have := lE (aD C.pw) (ys := un) fun x hx => by obtain ⟨p, hp, rfl⟩ := List.mem_map.mp hx; exact h p hp
 rwa [List.length_map] at this
theorem Gd.len {un : List Str} {p : Pl} (h : Gd un p) : p.ps.length <= un.length := lS h.can fun q hq => (h.le q hq).2
theorem Gd.good {un : List Str} {p : Pl} (h : Gd un p) (u6 : un.length <= 6) : lB p := ⟨h.can, by have := h.len; omega, h.c0, by have := h.c1; omega, fun q hq => by have := (h.le q hq).1; omega⟩
theorem pF {pls : ca} {x : Str} (h : x ∈ aA pls) : ∃ e ∈ pls, plS pls x = e.2 := by
 obtain ⟨e, he, rfl⟩ := List.mem_map.mp h
 unfold plS
 cases q : pls.find? (fun z => decide (z.1 = e.1)) with
 | none => exact absurd (decide_eq_true rfl) (List.find?_eq_none.mp q e he)
 | some z => exact ⟨z, List.mem_of_find?_eq_some q, rfl⟩
theorem iR {bs : List Str} {ps : List Pr} {p : Pr} (h : p ∈ bd bs ps) : p ∈ ps /\ p.1 ∈ bs := by
 obtain ⟨h1, h2⟩ := List.mem_filter.mp h
 exact ⟨h1, of_decide_eq_true h2⟩
theorem pJ {ps qs : List Pr} (C : aR ps) (h : List.Sublist qs ps) : aR qs := ⟨C.pw.sublist h, fun p hp => C.ge p (h.subset hp)⟩
theorem jO {bs : List Str} {ps : List Pr} (C : aR ps) : aR (bd bs ps) := pJ C List.filter_sublist
section
variable {fn un : List Str} {pls : ca} {c : Int} {ps : List Pr}
theorem oq {B : Int} (h0 : 0 <= B) {ns : List Pr} (h : ∀ p ∈ ns, p.2 <= B) (x : Str) : tm ns x <= B := by
 induction ns with
 | nil => exact h0
 | cons p ns ih =>
  show (if p.1 = x then p.2 else tm ns x) <= B
  split
  ·exact h p List.mem_cons_self
  ·exact ih fun q hq => h q (List.mem_cons_of_mem _ hq)
theorem pP (W : Plc fn un pls) : ∀ {qs : List Pr}, (∀ q ∈ qs, 0 <= q.2 /\ q.2 <= 100 /\ q.1 ∈ aA pls) -> (0 <= dJ (plS pls) qs /\ dJ (plS pls) qs <= qs.length * 10 ^ 8) /\ ∀ x, 0 <= cK (plS pls) qs x /\ cK (plS pls) qs x <= qs.length * 10 ^ 8 /\ (cK (plS pls) qs x ≠ 0 -> x ∈ un)
 | [], _ => ⟨by show (0 : Int) <= 0 /\ (0 : Int) <= _; decide, fun x => ⟨by show (0 : Int) <= 0; decide, by show (0 : Int) <= _; decide, fun h => absurd rfl h⟩⟩
 | q :: qs, h => by
  obtain ⟨⟨i1, i2⟩, i3⟩ := pP W (qs := qs) fun r hr => h r (List.mem_cons_of_mem _ hr)
  obtain ⟨q0, q1, qk⟩ := h q List.mem_cons_self
  obtain ⟨e, he, ee⟩ := pF qk
  have g := W.gd e he
  have b1 : 0 <= q.2 * e.2.c := Int.mul_nonneg q0 g.c0
  have b2 : q.2 * e.2.c <= 100 * 10 ^ 6 := Int.le_trans (Int.mul_le_mul_of_nonneg_right q1 g.c0) (Int.mul_le_mul_of_nonneg_left g.c1 (by decide))
  have el : (((q :: qs).length : Nat) : Int) = (qs.length : Int) + 1 := by rw [List.length_cons]; rfl
  refine ⟨?_, fun x => ?_⟩
  ·have e1 : dJ (plS pls) (q :: qs) = q.2 * (plS pls q.1).c + dJ (plS pls) qs := rfl
   rw [e1, ee, el]
   constructor <;> omega
  ·obtain ⟨j1, j2, j3⟩ := i3 x
   have e1 : cK (plS pls) (q :: qs) x = q.2 * tm (plS pls q.1).ps x + cK (plS pls) qs x := rfl
   have t0 := bx (fun r hr => Int.le_trans (by decide) (g.can.ge r hr)) x
   have t1 := oq (B := 10 ^ 6) (by decide) (fun r hr => (g.le r hr).1) x
   have b3 : 0 <= q.2 * tm e.2.ps x := Int.mul_nonneg q0 t0
   have b4 : q.2 * tm e.2.ps x <= 100 * 10 ^ 6 := Int.le_trans (Int.mul_le_mul_of_nonneg_right q1 t0) (Int.mul_le_mul_of_nonneg_left t1 (by decide))
   rw [e1, ee, el]
   refine ⟨by omega, by omega, fun hn => ?_⟩
   by_cases z : cK (plS pls) qs x = 0
   ·have : tm e.2.ps x ≠ 0 := fun y => hn (by rw [y, Int.mul_zero, z]; rfl)
    obtain ⟨p, hp, rfl⟩ := cS this
    exact (g.le p hp).2
   ·exact j3 z
end
abbrev cQ : Stmt := top 17
abbrev bB : Stmt := top 19
def sv : Sp := fun vs H Q _ => ∃ (v : V) (b : Addr) (c : Int) (ps : List Pr) (m : List (Key × V)) (bs : List Str), vs = [v, .ref b] /\ Rep H (aN c ps) v /\ ps.length <= 40 /\ H b = some (.dK m) /\ (∀ x, (cw m (Sum.inr x)).isSome = decide (x ∈ bs)) /\
 ∀ (H' : Hp) (l : Addr) (us : List V), ao H H' -> H l = none -> H' l = some (.lst us) -> Reps H' (aV (aF bs ps)) us -> Q (.ref l) H'
theorem kW (en : List En) (x : Str) : (cw (enK en) (Sum.inr x)).isSome = decide (x ∈ aA (aH en)) := by
 rw [kq, Option.isSome_map]
 unfold aA aH
 rw [List.map_map]
 by_cases h : x ∈ en.map ((·.1) ∘ fun e : En => (e.1, e.2.2))
 ·rw [decide_eq_true h]
  obtain ⟨e, he, rfl⟩ := List.mem_map.mp h
  rw [List.find?_isSome]
  exact ⟨e, he, decide_eq_true rfl⟩
 ·rw [decide_eq_false h, <- Bool.not_eq_true, List.find?_isSome]
  rintro ⟨e, he, z⟩
  exact h (List.mem_map.mpr ⟨e, he, of_decide_eq_true z⟩)
theorem plp (p : Pr) : L2.Pl 1 (.tup [.str p.1, .int p.2]) := .tup fun d hd => by
 rcases List.mem_cons.mp hd with rfl | hd
 ·exact .str
 ·rw [List.mem_singleton.mp hd]; exact .int
theorem nI {p q : Pr} (h : Dv.tup [.str p.1, .int p.2] = .tup [.str q.1, .int q.2]) : p = q := by
 injection h with h; injection h with h1 h2; injection h2 with h2 _; injection h1 with h1; injection h2 with h2
 exact Prod.ext h1 h2
theorem fL {H : Hp} {p : Pr} {e : Addr} (he : H e = some (.tup [.str p.1, .int p.2])) : Rep H (.tup [.str p.1, .int p.2]) (.ref e) := by
 rw [Rep]
 exact ⟨e, _, rfl, he, by simp only [Reps]; exact ⟨_, _, rfl, by simp only [Rep], _, _, rfl, by simp only [Rep], rfl⟩⟩
theorem gZ.tup {H H' : Hp} {en : List En} (h : gZ H en) (t : bG H H') : gZ H' en := ⟨fun e he => ⟨bS t (bQ _ _) (h.all e he).1, (h.all e he).2⟩⟩
structure Pd (fn un : List Str) (H : Hp) (d : Addr) (en : List En) : Prop where
 at_ : H d = some (.dK (enK en))
 ok : gZ H en
 pl : Plc fn un (aH en)
theorem Pd.m {fn un : List Str} {H H' : Hp} {d : Addr} {en : List En} (h : Pd fn un H d en) (s : ao H H') : Pd fn un H' d en := ⟨s _ _ h.at_, h.ok.mono s, h.pl⟩
theorem Pd.len {fn un : List Str} {H : Hp} {d : Addr} {en : List En} (h : Pd fn un H d en) : en.length <= fn.length := by
 have := h.pl.len
 rwa [aH, List.length_map] at this
theorem pE {fn un : List Str} {pls : ca} {c : Int} {ps qs : List Pr} {C : Int} (W : Plc fn un pls) (P : Pm fn c ps) (hC : C = c + dJ (plS pls) (bd (aA pls) ps)) (Q : aR qs) (hq : ∀ x, tm qs x = cK (plS pls) (bd (aA pls) ps) x) :
  ck pls c ps = ⟨C, qs⟩ /\ 0 <= C /\ C < 10 ^ 10 /\ ∀ q ∈ qs, q.2 < 10 ^ 10 /\ q.1 ∈ un := by
 have hk : ∀ q ∈ bd (aA pls) ps, 0 <= q.2 /\ q.2 <= 100 /\ q.1 ∈ aA pls := fun q hq => by
  obtain ⟨h1, h2⟩ := iR hq
  have := P.can.ge q h1
  exact ⟨by omega, (P.le q h1).1, h2⟩
 obtain ⟨⟨b1, b2⟩, b3⟩ := pP W hk
 have hl : (bd (aA pls) ps).length <= 5 := Nat.le_trans (List.length_filter_le _ _) P.len
 have c0 := P.c0
 have c1 := P.c1
 refine ⟨?_, by omega, by omega, fun q hq' => ?_⟩
 ·unfold ck
  rw [hC, pA Q hq]
 ·have e := bI (aD Q.pw) hq'
  have g := Q.ge q hq'
  obtain ⟨_, d2, d3⟩ := b3 q.1
  rw [<- hq, e] at d2 d3
  exact ⟨by omega, d3 (by omega)⟩
theorem pr {un : List Str} {g r : Pl} {qs : List Pr} (G : Gd un g) (R0 : 0 <= r.c) (Rc : aR r.ps) (ne : ¬ Exc r.c g.c r.ps g.ps) (Q : aR qs) (hq : ∀ x, tm qs x = tm g.ps x - tm r.ps x) : kc g r = ⟨g.c - r.c, qs⟩ /\ Gd un ⟨g.c - r.c, qs⟩ := by
 refine ⟨by unfold kc; rw [pA Q hq], ?_⟩
 have h1 : r.c <= g.c := Int.not_lt.mp fun z => ne (.inl z)
 have h2 := G.c1
 refine ⟨Q, by show 0 <= g.c - r.c; omega, by show g.c - r.c <= 10 ^ 6; omega, fun q hq' => ?_⟩
 have e := bI (aD Q.pw) hq'
 have ge := Q.ge q hq'
 rw [hq] at e
 have t0 := bx (fun x hx => Int.le_trans (by decide) (Rc.ge x hx)) q.1
 have t1 := oq (B := 10 ^ 6) (by decide) (fun x hx => (G.le x hx).1) q.1
 refine ⟨by show q.2 <= 10 ^ 6; omega, ?_⟩
 obtain ⟨p, hp, e2⟩ := cS (ps := g.ps) (x := q.1) (by omega)
 rw [<- e2]; exact (G.le p hp).2
def lc (fn un : List Str) : Sp := fun vs H Q _ => ∃ (v u : V) (d : Addr) (c : Int) (ps : List Pr) (g : Pl) (en : List En), vs = [v, u, .ref d] /\ Rep H (aN c ps) v /\ Pm fn c ps /\ Rep H (plD g) u /\ Gd un g /\ Pd fn un H d en /\ fn.length <= 4 /\ un.length <= 6 /\
 (∀ dv, bindL (aH en) c ps g = .inl dv -> ∀ H' w, ao H H' -> Rep H' dv w -> w ≠ .non -> Q w H') /\ (∀ pls, bindL (aH en) c ps g = .inr pls -> ∀ H' en', bq d H H' -> bG H H' -> Pd fn un H' d en' -> aH en' = pls -> Q .non H')
section
variable {P : Program} {w : World} {K : PySem.W.Frag} {mg : Str -> Option Value} {base : Heap}
theorem oI : aW ["length", "bound"] ["length", "bound"] (aj cQ) := ⟨rfl, rfl, rfl, by decide +kernel, rfl, by decide +kernel, by decide +kernel⟩
theorem nP {f : Addr} {fd : FuncData} (F : Fun K "unbound" "unbound" cQ f fd) (T : Txt K mg) : br P w K mg base CX0 1 f fd ["length", "bound"] sv := by
 refine F.ok oI (fun vs H Q E h => ?_) (fun cdv A outer s H vs Q E hr h => ?_)
 ·obtain ⟨v, b, c, ps, m, bs, rfl, _⟩ := h
  rfl
 obtain ⟨v, b, c, ps, m, bs, rfl, R, h40, hb, hm, q⟩ := h
 have hu := cW hr
 obtain ⟨a, a1, us, rfl, ha, ha1, ru, lu⟩ := bn R
 refine ⟨_, (@ak _ _ _ (@aE _ _ _ _ (@dq _ _ (["part"]) ([1]) _ _ _ _ _ _ _ _ _ (@bX _ _ _ _ (@ar _ _ _ _ _ _ _ ap (@pv _ 0 _ _ (by rfl) (by trivial) (by decide) (by decide)) (@ad _ _ _ _) (fun _ _ => rfl))) (.of rfl) rfl (fun _ _ _ => aG (i := 0) (bL (l := ["part", "bound"]) ((by decide +kernel)) rfl) rfl (Or.inl rfl)) (bK (by decide)) (fun _ _ _ => dR (@aB _ _ _ _ _ _ _ _ (ju hu) (@ar _ _ _ _ _ _ _ (fX K rfl) (@pv _ 0 _ _ (by rfl) (by trivial) (by decide) (by decide)) (@ad _ _ _ _) (fun _ _ => rfl)) (@pv _ 1 _ _ (by rfl) (by trivial) (by decide) (by decide)) (by with_unfolding_all rfl))) (fun _ _ _ => (@pv _ 0 _ _ (by rfl) (by trivial) (by decide) (by decide))) (by intro _; rfl)))), ?_⟩
 refine ⟨_, rfl, a, _, 1, .ref a1, rfl, rfl, SqT.of ha, ah (j := 1) rfl, a1, rfl, ⟨us, SqT.of ha1⟩, cY (xs := us) (fun i ys H' => H' = H /\ ys.length <= i /\ Reps H (aV (aF bs (ps.take i))) ys) ⟨rfl, Nat.le_refl _, by simp [aF, Reps]⟩ (fun i ys H' _ p => by rw [p.1]; exact SqT.of ha1) ?_ ?_⟩
 ·rintro i ys H' x hx ⟨rfl, ly, Ry⟩
  obtain ⟨p, e, hp, rfl, he⟩ := bO ru hx
  have hi : i < us.length := (List.getElem?_eq_some_iff.mp hx).1
  have hti : ps.take (i + 1) = ps.take i ++ [p] := by rw [List.take_add_one, hp]; rfl
  refine eW ⟨_, rfl, e, _, 0, .str p.1, rfl, rfl, SqT.of he, ah (j := 0) rfl, _, rfl, b, _, rfl, dC.k (k := Sum.inr p.1) hb, ?_⟩
  refine ⟨_, rfl, ?_⟩
  show if (!(cw m (Sum.inr p.1)).isSome) = true then _ else _
  rw [hm]
  by_cases h : p.1 ∈ bs
  ·rw [decide_eq_true h]
   refine cr ⟨rfl, by omega, ?_⟩
   have : aF bs (ps.take (i + 1)) = aF bs (ps.take i) := by unfold aF; rw [hti, List.filter_append]; simp [h]
   rw [this]; exact Ry
  ·rw [decide_eq_false h]
   refine bR ⟨_, rfl, by rw [sizeLine_eq]; omega, rfl, by rw [List.length_append, List.length_singleton]; omega, ?_⟩
   have : aF bs (ps.take (i + 1)) = aF bs (ps.take i) ++ [p] := by unfold aF; rw [hti, List.filter_append]; simp [h]
   rw [this, show aV (aF bs (ps.take i) ++ [p]) = aV (aF bs (ps.take i)) ++ aV [p] from List.map_append]
   exact Reps.append Ry (bb (fL he))
 ·rintro ys H' ⟨rfl, ly, Ry⟩ r hr'
  rw [lu, List.take_length] at Ry
  exact q _ r ys (ac hr' _) hr' ab (Ry.mono (ac hr' _))
theorem eO : aW ["length", "given", "places", "fresh", "known", "rest"] ["length", "given", "places"] (aj bB) := ⟨rfl, rfl, rfl, by decide +kernel, rfl, by decide +kernel, by decide +kernel⟩
theorem iF {f : Addr} {fd : FuncData} {k : Nat} {fn un : List Str} (F : Fun K "bind_length" "bind_length" bB f fd) (T : Txt K mg) (Dunbound : Def P w K mg base k "unbound" ["length", "bound"] sv) (Dput : Def P w K mg base k "put" ["a", "places"] rD) (Dexceeding : Def P w K mg base k "exceeding" ["a", "b"] oP) (Dless : Def P w K mg base k "less" ["a", "b"] gz) : br P w K mg base CX0 (k + 1) f fd ["length", "given", "places"] (lc fn un) := by
 have nd : (["length", "given", "places", "fresh", "known", "rest"] : List Str).Nodup := eO.nd
 refine F.ok eO (fun vs H Q E h => ?_) (fun cdv A outer s H vs Q E hr h => ?_)
 ·obtain ⟨v, u, d, c, ps, g, en, rfl, _⟩ := h
  rfl
 obtain ⟨v, u, d, c, ps, g, en, rfl, R, pm, Rg, gd, pd, f4, u6, qf, qo⟩ := h
 have hu := cW hr
 have hu9 := iX hr
 have huL : (A.deeper (PyProof.Rows.envOfC (Str.ofString "bind_length") (aj bB) s.heap.objs.size f cdv)).units < cLine := by omega
 have p5 := pm.len
 obtain ⟨a, a1, us, rfl, ha, ha1, ru, lu⟩ := bn R
 refine ⟨_, (@ag _ _ _ _ _ (@aM _ _ (3) _ _ _ _ nd rfl (Or.inr rfl) (@aI _ _ _ _ _ _ _ _ _ _ Dunbound hr rfl (@aa _ _ _ _ _ (@pv _ 0 _ _ (by rfl) (by trivial) (by decide) (by decide)) (@aa _ _ _ _ _ (@pv _ 2 _ _ (by rfl) (by trivial) (by decide) (by decide)) (@ae _) (by rfl)) (by rfl)) (by decide) (by rfl) (by rfl)) (by rfl) (by trivial)) (@ag _ _ _ _ _ (@aM _ _ (4) _ _ _ _ nd rfl (Or.inl rfl) (@av _ _ _ _ _ (@aa _ _ _ _ _ (@ar _ _ _ _ _ _ _ ap (@pv _ 0 _ _ (by rfl) (by trivial) (by decide) (by decide)) (@ad _ _ _ _) (fun _ _ => rfl)) (@aa _ _ _ _ _ (@aZ _ _ _ _ _ _ _ _ _ ba rfl T.tuple (by decide +kernel) (@aa _ _ _ _ _ (@dq _ _ (["part"]) ([3]) _ _ _ _ _ _ _ _ _ (@bX _ _ _ _ (@ar _ _ _ _ _ _ _ ap (@pv _ 0 _ _ (by rfl) (by trivial) (by decide) (by decide)) (@ad _ _ _ _) (fun _ _ => rfl))) (.of rfl) rfl (fun _ _ _ => aG (i := 0) (bL (l := ["part", "fresh"]) ((by decide +kernel)) rfl) rfl (Or.inl rfl)) (bK (by decide)) (fun _ _ _ => dR (@aB _ _ _ _ _ _ _ _ (uE K rfl hu9) (@pv _ 0 _ _ (by rfl) (by trivial) (by decide) (by decide)) (@pv _ 1 _ _ (by rfl) (by trivial) (by decide) (by decide)) (by with_unfolding_all rfl))) (fun _ _ _ => (@pv _ 0 _ _ (by rfl) (by trivial) (by decide) (by decide))) (by intro _; rfl)) (@ae _) (by rfl)) (by decide) (by decide) (by rfl) (by rfl)) (@ae _) (by rfl)) (by rfl))) (by rfl) (by trivial)) (@ag _ _ _ _ _ (@aM _ _ (5) _ _ _ _ nd rfl (Or.inl rfl) (@aI _ _ _ _ _ _ _ _ _ _ Dput hr rfl (@aa _ _ _ _ _ (@pv _ 4 _ _ (by rfl) (by trivial) (by decide) (by decide)) (@aa _ _ _ _ _ (@pv _ 2 _ _ (by rfl) (by trivial) (by decide) (by decide)) (@ae _) (by rfl)) (by rfl)) (by decide) (by rfl) (by rfl)) (by rfl) (by trivial)) (@ag _ _ _ _ _ (@bi _ _ _ _ _ _ _ _ (@aB _ _ _ _ _ _ _ _ (ou huL) (@pv _ 3 _ _ (by rfl) (by trivial) (by decide) (by decide)) (@bC _ _ _ _ (@ae _)) (aO _)) (@ak _ _ _ (@aE _ _ _ _ (@rT _ _ _ _ _ _ _ _ (@aB _ _ _ _ _ _ _ _ (rK hu9) (@pv _ 5 _ _ (by rfl) (by trivial) (by decide) (by decide)) (@pv _ 1 _ _ (by rfl) (by trivial) (by decide) (by decide)) (aO _)) (@bW _ _ _) (@av _ _ _ _ _ (@aa _ _ _ _ _ (@aY _ _ _ _) (@aa _ _ _ _ _ (@pv _ 5 _ _ (by rfl) (by trivial) (by decide) (by decide)) (@aa _ _ _ _ _ (@pv _ 1 _ _ (by rfl) (by trivial) (by decide) (by decide)) (@ae _) (by rfl)) (by rfl)) (by rfl)))))) (@aS _)) (@ag _ _ _ _ _ (@bi _ _ _ _ _ _ _ _ (@aB _ _ _ _ _ _ _ _ eX (@aI _ _ _ _ _ _ _ _ _ _ Dexceeding hr rfl (@aa _ _ _ _ _ (@pv _ 5 _ _ (by rfl) (by trivial) (by decide) (by decide)) (@aa _ _ _ _ _ (@pv _ 1 _ _ (by rfl) (by trivial) (by decide) (by decide)) (@ae _) (by rfl)) (by rfl)) (by decide) (by rfl) (by rfl)) (@bW _ _ _) (aO _)) (@ak _ _ _ (@aE _ _ _ _ (@av _ _ _ _ _ (@aa _ _ _ _ _ (@aY _ _ _ _) (@aa _ _ _ _ _ (@pv _ 5 _ _ (by rfl) (by trivial) (by decide) (by decide)) (@aa _ _ _ _ _ (@pv _ 1 _ _ (by rfl) (by trivial) (by decide) (by decide)) (@ae _) (by rfl)) (by rfl)) (by rfl))))) (@aS _)) (@ag _ _ _ _ _ (@dg _ _ _ _ _ _ _ _ _ hu (@pv _ 2 _ _ (by rfl) (by trivial) (by decide) (by decide)) (@ar _ _ _ _ _ _ _ ap (@ar _ _ _ _ _ _ _ bJ (@pv _ 3 _ _ (by rfl) (by trivial) (by decide) (by decide)) (@ad _ _ _ _) (fun _ _ => rfl)) (@ad _ _ _ _) (fun _ _ => rfl)) (@aI _ _ _ _ _ _ _ _ _ _ Dless hr rfl (@aa _ _ _ _ _ (@pv _ 1 _ _ (by rfl) (by trivial) (by decide) (by decide)) (@aa _ _ _ _ _ (@pv _ 5 _ _ (by rfl) (by trivial) (by decide) (by decide)) (@ae _) (by rfl)) (by rfl)) (by decide) (by rfl) (by rfl)) rfl) (@ak _ _ _ (@aE _ _ _ _ (@bW _ _ _))))))))), ?_⟩
 refine ⟨_, rfl, _, rfl, .ref a, d, c, ps, enK en, aA (aH en), rfl, R, by omega, pd.at_, kW en, fun H1 l fs s1 hl hl1 Rf => ?_⟩
 refine gnm ?_
 dsimp only
 have pd1 := pd.m s1
 have lfs : fs.length = (aF (aA (aH en)) ps).length := by have := Rf.length; rwa [List.length_map] at this
 refine ⟨_, rfl, a, _, 0, .int c, rfl, rfl, SqT.of (s1 _ _ ha), ah (j := 0) rfl, _, rfl, a, _, 1, .ref a1, rfl, rfl, SqT.of (s1 _ _ ha), ah (j := 1) rfl, a1, rfl, ⟨us, SqT.of (s1 _ _ ha1)⟩, cY (xs := us) (fun i ys H' => H' = H1 /\ ys.length <= i /\ Reps H1 (aV (bd (aA (aH en)) (ps.take i))) ys) ⟨rfl, Nat.le_refl _, by simp [bd, Reps]⟩ (fun i ys H' _ p => by rw [p.1]; exact SqT.of (s1 _ _ ha1)) ?L1 ?_⟩
 case L1 =>
  rintro i ys H' x hx ⟨rfl, ly, Ry⟩
  obtain ⟨p, e, hp, rfl, he⟩ := bO ru hx
  have hi : i < us.length := (List.getElem?_eq_some_iff.mp hx).1
  have hpm := List.mem_of_getElem? hp
  have hti : ps.take (i + 1) = ps.take i ++ [p] := by rw [List.take_add_one, hp]; rfl
  refine eW ⟨_, rfl, _, rfl, l, fs, 1, .tup [.str p.1, .int p.2], aV (aF (aA (aH en)) ps), rfl, SqL.of hl1, Rf, fun d hd => by obtain ⟨z, _, rfl⟩ := List.mem_map.mp hd; exact plp z, plp p, by decide, fL (s1 _ _ he), fun b hb => ⟨_, rfl, ?_⟩⟩
  have eb : b = decide (p.1 ∈ aA (aH en)) := by
   rw [Bool.eq_iff_iff, hb, decide_eq_true_iff]
   constructor
   ·intro h
    exact Classical.byContradiction fun z => h (List.mem_map_of_mem (f := fun p : Pr => Dv.tup [.str p.1, .int p.2]) (List.mem_filter.mpr ⟨hpm, by simp [z]⟩))
   ·intro h z
    obtain ⟨r, hr', e'⟩ := List.mem_map.mp z
    rw [nI e'] at hr'
    have := (List.mem_filter.mp hr').2
    simp [h] at this
  rw [eb]
  by_cases h : p.1 ∈ aA (aH en)
  ·rw [decide_eq_true h]
   refine bR ⟨_, rfl, by rw [sizeLine_eq]; omega, rfl, by rw [List.length_append, List.length_singleton]; omega, ?_⟩
   have : bd (aA (aH en)) (ps.take (i + 1)) = bd (aA (aH en)) (ps.take i) ++ [p] := by unfold bd; rw [hti, List.filter_append]; simp [h]
   rw [this, show aV (bd (aA (aH en)) (ps.take i) ++ [p]) = aV (bd (aA (aH en)) (ps.take i)) ++ aV [p] from List.map_append]
   exact Reps.append Ry (bb (fL (s1 _ _ he)))
  ·rw [decide_eq_false h]
   refine cr ⟨rfl, by omega, ?_⟩
   have : bd (aA (aH en)) (ps.take (i + 1)) = bd (aA (aH en)) (ps.take i) := by unfold bd; rw [hti, List.filter_append]; simp [h]
   rw [this]; exact Ry
 rintro ys H' ⟨rfl, ly, Ry⟩ r hr'
 rw [lu, List.take_length] at Ry
 refine ⟨r, _, rfl, .inl ⟨SqL.of ab, fun t ht => ⟨z2, fun m hm => ?_⟩⟩⟩
 have p2 := ac hr' (.lst ys)
 have p3 := ac ht (.tup ys)
 have p4 := ac hm (.tup [.int c, .ref t])
 have s14 := p2.trans (p3.trans p4)
 have Rk : Rep (upd (upd (upd H' r (.lst ys)) t (.tup ys)) m (.tup [.int c, .ref t])) (aN c (bd (aA (aH en)) ps)) (.ref m) := dc ab (p4 _ _ ab) (Ry.mono s14)
 generalize upd (upd (upd H' r (.lst ys)) t (.tup ys)) m (.tup [.int c, .ref t]) = H4 at s14 Rk ⊢
 refine gnm ?_
 dsimp only
 have pd4 := pd1.m s14
 refine ⟨_, rfl, _, rfl, .ref m, d, c, bd (aA (aH en)) ps, en, rfl, Rk, jO pm.can, Nat.le_trans (List.length_filter_le _ _) pm.len, fun p hp => by have := (pm.le p (iR hp).1).1; omega, pd4.at_, pd4.ok, fun H5 rv C qs s5 Rr Cq eC tq _ _ => ?_⟩
 rw [lR] at eC tq
 obtain ⟨eR, C0, C1, qB⟩ := pE pd.pl pm eC Cq tq
 refine gnm ?_
 dsimp only
 have s05 := s1.trans (s14.trans s5)
 have Rg5 := Rg.mono s05
 have hl5 := s5 _ _ (s14 _ _ hl1)
 have lq : qs.length <= 6 := by have := lS Cq (un := un) fun q hq => (qB q hq).2; omega
 have lg : g.ps.length <= 6 := by have := gd.len; omega
 refine ⟨_, rfl, Nat.zero_le _, fun e he => ⟨l, e, fs, rfl, rfl, SqL.of (ac he _ _ _ hl5), SqL.of ab, _, rfl, ?_⟩⟩
 have p6 := ac he (.lst [])
 have s06 := s05.trans p6
 have Rr6 := Rr.mono p6
 have Rg6 := Rg.mono s06
 have hl6 := p6 _ _ hl5
 have pd6 := pd.m s06
 have Rf6 := Rf.mono (s14.trans (s5.trans p6))
 generalize upd H5 e (.lst []) = H6 at p6 s06 Rr6 Rg6 hl6 pd6 Rf6 ⊢
 have tupR : ∀ {H' : Hp} (w0 : String) (k : Addr), H' k = some (.tup [.str w0, rv, u]) -> Rep H' (aN C qs) rv -> Rep H' (plD g) u -> Rep H' (.tup [.str w0, plD (ck (aH en) c ps), plD g]) (.ref k) := fun w0 k hk h1 h2 => by
  rw [eR, Rep]
  exact ⟨k, _, rfl, hk, by simp only [Reps]; exact ⟨_, _, rfl, by simp only [Rep], _, _, rfl, h1, _, _, rfl, h2, rfl⟩⟩
 cases ef : aF (aA (aH en)) ps with
 | nil =>
  obtain rfl : fs = [] := List.eq_nil_of_length_eq_zero (by rw [lfs, ef]; rfl)
  refine bR ?_
  refine ⟨_, rfl, _, rfl, 3, _, _, bQ C qs, bQ g.c g.ps, by decide, Rr6, Rg6, fun b hb => ⟨_, rfl, ?_⟩⟩
  have hb' : b = true ↔ ck (aH en) c ps = g := by
   rw [hb, eR]
   constructor
   ·intro z
    obtain ⟨e1, e2⟩ := jy (congrArg Dv.tup z)
    cases g; simp only at e1 e2; rw [e1, e2]
   ·intro z; rw [<- z]
  cases b with
  | true =>
   refine bR (qo (aH en) ?_ H6 en (ao.b d s06) (ao.tups s06) pd6 rfl)
   unfold bindL; rw [ef]; exact if_pos (hb'.mp rfl)
  | false =>
   refine cr ⟨_, rfl, _, rfl, z3, fun k hk => ?_⟩
   have p7 := ac hk (.tup [.str "parts", rv, u])
   refine qf _ ?_ _ _ (s06.trans p7) (tupR "parts" k ab (Rr6.mono p7) (Rg6.mono p7)) nofun
   unfold bindL; rw [ef]; exact if_neg fun z => absurd (hb'.mpr z) (by decide)
 | cons p0 fr =>
  obtain ⟨y, ys', rfl⟩ : ∃ y z, fs = y :: z := by cases fs with | nil => rw [ef] at lfs; cases lfs | cons y z => exact ⟨y, z, rfl⟩
  refine cr ?_
  have p0m : p0 ∈ ps /\ p0.1 ∉ aA (aH en) := by
   have : p0 ∈ aF (aA (aH en)) ps := by rw [ef]; exact List.mem_cons_self
   obtain ⟨h1, h2⟩ := List.mem_filter.mp this
   exact ⟨h1, by simpa using h2⟩
  refine ⟨_, rfl, _, rfl, rv, u, C, g.c, qs, g.ps, rfl, Rr6, Rg6, Cq, gd.can, by omega, by omega, fun q hq => by have := (qB q hq).1; omega, fun ex H7 t7 s7 => ⟨rfl, _, rfl, ?_⟩, fun ne H7 s7 => ⟨rfl, _, rfl, ?_⟩⟩
  ·rw [show (!decide (V.ref t7 = V.non)) = true by simp]
   refine bR ⟨_, rfl, _, rfl, z3, fun k hk => ?_⟩
   have p8 := ac hk (.tup [.str "exceeds", rv, u])
   refine qf _ ?_ _ _ (s06.trans (s7.trans p8)) (tupR "exceeds" k ab (Rr6.mono (s7.trans p8)) (Rg6.mono (s7.trans p8))) nofun
   unfold bindL; rw [ef]; exact if_pos (by rw [eR]; exact ex)
  ·rw [show (!decide (V.non = V.non)) = false by simp]
   refine cr ⟨_, rfl, _, rfl, u, rv, g.c, C, g.ps, qs, rfl, Rg6.mono s7, Rr6.mono s7, gd.can, Cq, by omega, by omega, fun q hq => by have := (qB q hq).1; omega, fun ex => absurd ex ne, fun _ H8 w8 zs s8 Rz Cz tz _ => ?_⟩
   have s08 := s06.trans (s7.trans s8)
   have pd8 := pd.m s08
   have hl8 := s8 _ _ (s7 _ _ hl6)
   have Rf8 := Rf6.mono (s7.trans s8)
   rw [ef] at Rf8
   simp only [List.map_cons, Reps] at Rf8
   obtain ⟨y', _, ey, Ry', _⟩ := Rf8
   cases ey
   obtain ⟨yb, yvs, rfl, hyb, ryv⟩ := Rep.tup_inv Ry'
   obtain ⟨x1, x2, rfl, rx1, _⟩ := Reps.two ryv
   obtain rfl : x1 = .str p0.1 := by simpa only [Rep] using rx1
   obtain ⟨w8a, _, _, rfl, _, _, _, _⟩ := bn Rz
   refine ⟨_, rfl, _, rfl, l, _, 0, .ref yb, rfl, rfl, SqL.of hl8, ah (j := 0) rfl, yb, _, 0, .str p0.1, rfl, rfl, SqT.of hyb, ah (j := 0) rfl, d, _, rfl, gY.k (k := Sum.inr p0.1) pd8.at_ ?_, ?_⟩
   ·rw [show (enK en).length = en.length from List.length_map _, sizeLine_eq]; have := pd.len; omega
   have rc : aR (ck (aH en) c ps).ps := by rw [eR]; exact Cq
   obtain ⟨eL, gL⟩ := pr gd (r := ck (aH en) c ps) (by rw [eR]; exact C0) rc (by rw [eR]; exact ne) Cz (fun x => by rw [tz, eR])
   have sB := bq.upd H8 d (.dK (cC (enK en) (Sum.inr p0.1) (.ref w8a)))
   have tB := sB.tupsD pd8.at_
   have pn : cC (enK en) (Sum.inr p0.1) (.ref w8a) = enK (en ++ [(p0.1, .ref w8a, ⟨g.c - C, zs⟩)]) := by
    have : cC (enK en) (Sum.inr p0.1) (.ref w8a) = enK en ++ [(Sum.inr p0.1, .ref w8a)] := by
     unfold cC
     rw [if_neg]
     intro z
     rw [List.any_eq_true] at z
     obtain ⟨q, hq, e⟩ := z
     obtain ⟨y, hy, rfl⟩ := List.mem_map.mp hq
     have e' : (Sum.inr y.1 : Key) = Sum.inr p0.1 := of_decide_eq_true e
     injection e' with e'
     exact p0m.2 (by unfold aA aH; rw [List.map_map]; exact List.mem_map.mpr ⟨y, hy, e'⟩)
    rw [this]
    unfold enK
    rw [List.map_append]; rfl
   have pe : aH (en ++ [(p0.1, V.ref w8a, (⟨g.c - C, zs⟩ : Pl))]) = aH en ++ [(p0.1, ⟨g.c - C, zs⟩)] := List.map_append
   have rz : (⟨g.c - C, zs⟩ : Pl) = kc g (ck (aH en) c ps) := by rw [eL, eR]
   have gL' : Gd un ⟨g.c - C, zs⟩ := by rw [eR] at gL; exact gL
   refine qo (aH en ++ [(p0.1, kc g (ck (aH en) c ps))]) ?_ _ (en ++ [(p0.1, .ref w8a, ⟨g.c - C, zs⟩)]) ((ao.b d s08).trans sB) ((ao.tups s08).trans tB) ⟨by rw [ab, pn], ⟨fun x hx => ?_⟩, ?_⟩ (by rw [pe, rz])
   ·unfold bindL; rw [ef]; exact if_neg (by rw [eR]; exact ne)
   ·rcases List.mem_append.mp hx with h | h
    ·exact (pd8.ok.tup tB).all x h
    ·rw [List.mem_singleton.mp h]
     exact ⟨bS tB (bQ _ _) Rz, gL'.good u6, w8a, rfl⟩
   ·rw [pe]
    refine ⟨?_, fun x hx => ?_, fun x hx => ?_⟩
    ·unfold aA
     rw [List.map_append]
     exact List.nodup_append.mpr ⟨pd.pl.nd, by simp, fun x hx y hy e => p0m.2 (by rw [List.mem_singleton.mp hy] at e; have e2 : x = p0.1 := e; rw [<- e2]; exact hx)⟩
    ·unfold aA at hx
     rw [List.map_append] at hx
     rcases List.mem_append.mp hx with h | h
     ·exact pd.pl.fn x h
     ·rw [List.mem_singleton.mp h]; exact (pm.le p0 p0m.1).2
    ·rcases List.mem_append.mp hx with h | h
     ·exact pd.pl.gd x h
     ·rw [List.mem_singleton.mp h]; exact gL'
end
abbrev ce : Stmt := top 20
abbrev fj : Stmt := top 21
noncomputable def bP (pls : ca) (x y : Kd) : Dv ⊕ ca := if x.word ≠ y.word then .inl (.tup [.str "unlike"]) else match x.len?, y.len? with
 | some a, some b => bindL pls a.1 a.2 ⟨b.1, b.2⟩
 | _, _ => .inr pls
noncomputable def bF : ca -> List (Kd × Kd) -> Dv ⊕ ca
 | pls, [] => .inr pls
 | pls, q :: r => match bP pls q.1 q.2 with | .inl d => .inl d | .inr p => bF p r
noncomputable def cV : ca -> List (Kd × Kd) -> Dv ⊕ ca
 | pls, [] => .inr pls
 | pls, q :: r => match bF pls (q.1.pts.zip q.2.pts) with | .inl d => .inl d | .inr p => cV p r
noncomputable def fH (names : List Str) (l : List (Kd × Kd)) : Dv := match cV [] l with
 | .inl d => d
 | .inr pls => .tup [.str "bound", .tup (names.map fun x => plD (plS pls x))]
theorem jf {pls : ca} {X : List (Kd × Kd)} {i : Nat} {q : Kd × Kd} (h : X[i]? = some q) : bF pls (X.drop i) = match bP pls q.1 q.2 with | .inl d => .inl d | .inr p => bF p (X.drop (i + 1)) := by
 obtain ⟨h1, rfl⟩ := List.getElem?_eq_some_iff.mp h
 rw [List.drop_eq_getElem_cons h1]; rfl
theorem jg {pls : ca} {X : List (Kd × Kd)} {i : Nat} {q : Kd × Kd} (h : X[i]? = some q) : cV pls (X.drop i) = match bF pls (q.1.pts.zip q.2.pts) with | .inl d => .inl d | .inr p => cV p (X.drop (i + 1)) := by
 obtain ⟨h1, rfl⟩ := List.getElem?_eq_some_iff.mp h
 rw [List.drop_eq_getElem_cons h1]; rfl
theorem ig {xs ys : List Kd} {i : Nat} {x y : Kd} (hx : xs[i]? = some x) (hy : ys[i]? = some y) : (xs.zip ys)[i]? = some (x, y) := by rw [List.getElem?_zip_eq_some]; exact ⟨hx, hy⟩
def GdK (un : List Str) (c : Int) (ps : List Pr) : Prop := Gd un ⟨c, ps⟩
theorem dm {P : Int -> List Pr -> Prop} : ∀ {k : Kd}, k.All P -> ∀ j ∈ k.pts, ∀ c ps, j.len? = some (c, ps) -> P c ps
 | .whole, _, j, hj, c, ps, e => by
  rw [List.mem_singleton.mp hj] at e; cases e
 | .place c ps, h, j, hj, c', ps', e => by
  rw [List.mem_singleton.mp hj] at e; cases e; exact h
 | .row c ps k, h, j, hj, c', ps', e => by
  rcases List.mem_cons.mp hj with rfl | hj
  ·cases e; exact h.1
  ·exact dm h.2 j hj c' ps' e
 | .pair a b, h, j, hj, c', ps', e => by
  rcases List.mem_cons.mp hj with rfl | hj
  ·cases e
  ·rcases List.mem_append.mp hj with hj | hj
   ·exact dm h.1 j hj c' ps' e
   ·exact dm h.2 j hj c' ps' e
def ku (fn un : List Str) : Sp := fun vs H Q _ => ∃ (v u : V) (d : Addr) (k j : Kd) (en : List En), vs = [v, u, .ref d] /\ Rep H k.dv v /\ Rep H j.dv u /\ k.size <= 100 /\ j.size <= 100 /\ k.All (Pm fn) /\ j.All (GdK un) /\ Pd fn un H d en /\ fn.length <= 4 /\ un.length <= 6 /\
 (∀ dv, bF (aH en) (k.pts.zip j.pts) = .inl dv -> ∀ H' w, bq d H H' -> Rep H' dv w -> w ≠ .non -> Q w H') /\ (∀ pls, bF (aH en) (k.pts.zip j.pts) = .inr pls -> ∀ H' en', bq d H H' -> bG H H' -> Pd fn un H' d en' -> aH en' = pls -> Q .non H')
theorem Kd.some_len {x y : Kd} (h : x.word = y.word) {p : Int × List Pr} (e : x.len? = some p) : ∃ r, y.len? = some r := by
 have := tS h
 rw [e] at this
 cases h2 : y.len? with
 | none => rw [h2] at this; cases this
 | some r => exact ⟨r, rfl⟩
section
variable {P : Program} {w : World} {K : PySem.W.Frag} {mg : Str -> Option Value} {base : Heap}
theorem ga : aW ["param", "given", "places", "here", "there", "fault"] ["param", "given", "places"] (aj ce) := ⟨rfl, rfl, rfl, by decide +kernel, rfl, by decide +kernel, by decide +kernel⟩
theorem lK {f : Addr} {fd : FuncData} {k0 : Nat} {fn un : List Str} (F : Fun K "bind_kind" "bind_kind" ce f fd) (T : Txt K mg) (Dpoints_of : Def P w K mg base k0 "points_of" ["kind"] fF) (Dlength_at : Def P w K mg base k0 "length_at" ["point"] kM) (Dbind_length : Def P w K mg base k0 "bind_length" ["length", "given", "places"] (lc fn un)) : br P w K mg base CX0 (k0 + 1) f fd ["param", "given", "places"] (ku fn un) := by
 have nd : (["param", "given", "places", "here", "there", "fault"] : List Str).Nodup := ga.nd
 refine F.ok ga (fun vs H Q E h => ?_) (fun cdv A outer s H vs Q E hr h => ?_)
 ·obtain ⟨v, u, d, k, j, en, rfl, _⟩ := h
  rfl
 obtain ⟨v, u, d, k, j, en, rfl, R1, R2, k40, j40, kA, jA, pd, f4, u6, qf, qo⟩ := h
 refine ⟨_, (@ag _ _ _ _ _ (@cv _ _ _ _ _ _ _ _ PassesOwn.never rfl (@lZ _ _ _ _ _ _ _ _ _ rfl T.zip (@aa _ _ _ _ _ (@aI _ _ _ _ _ _ _ _ _ _ Dpoints_of hr rfl (@aa _ _ _ _ _ (@pv _ 0 _ _ (by rfl) (by trivial) (by decide) (by decide)) (@ae _) (by rfl)) (by decide) (by rfl) (by rfl)) (@aa _ _ _ _ _ (@aI _ _ _ _ _ _ _ _ _ _ Dpoints_of hr rfl (@aa _ _ _ _ _ (@pv _ 1 _ _ (by rfl) (by trivial) (by decide) (by decide)) (@ae _) (by rfl)) (by decide) (by rfl) (by rfl)) (@ae _) (by rfl)) (by rfl)) (by rfl) (by rfl)) (@bT _ _ _ _ _ _ rfl (@aQ _ _ _ _ _ (@aG _ _ (3) _ nd rfl (Or.inl rfl) (by trivial)) (@aQ _ _ _ _ _ (@aG _ _ (4) _ nd rfl (Or.inl rfl) (by trivial)) (@bA _) (by rfl)) (by rfl)) (by rfl) (by rfl)) (@ag _ _ _ _ _ (@bi _ _ _ _ _ _ _ _ (@aB _ _ _ _ _ _ _ _ vi (@ar _ _ _ _ _ _ _ ap (@pv _ 3 _ _ (by rfl) (by trivial) (by decide) (by decide)) (@ad _ _ _ _) (fun _ _ => rfl)) (@ar _ _ _ _ _ _ _ ap (@pv _ 4 _ _ (by rfl) (by trivial) (by decide) (by decide)) (@ad _ _ _ _) (fun _ _ => rfl)) (aO _)) (@ak _ _ _ (@aE _ _ _ _ (@av _ _ _ _ _ (@aa _ _ _ _ _ (@aY _ _ _ _) (@ae _) (by rfl))))) (@aS _)) (@ak _ _ _ (@bi _ _ _ _ _ _ _ _ (@aB _ _ _ _ _ _ _ _ eX (@aI _ _ _ _ _ _ _ _ _ _ Dlength_at hr rfl (@aa _ _ _ _ _ (@pv _ 3 _ _ (by rfl) (by trivial) (by decide) (by decide)) (@ae _) (by rfl)) (by decide) (by rfl) (by rfl)) (@bW _ _ _) (aO _)) (@ag _ _ _ _ _ (@aM _ _ (5) _ _ _ _ nd rfl (Or.inl rfl) (@aI _ _ _ _ _ _ _ _ _ _ Dbind_length hr rfl (@aa _ _ _ _ _ (@aI _ _ _ _ _ _ _ _ _ _ Dlength_at hr rfl (@aa _ _ _ _ _ (@pv _ 3 _ _ (by rfl) (by trivial) (by decide) (by decide)) (@ae _) (by rfl)) (by decide) (by rfl) (by rfl)) (@aa _ _ _ _ _ (@aI _ _ _ _ _ _ _ _ _ _ Dlength_at hr rfl (@aa _ _ _ _ _ (@pv _ 4 _ _ (by rfl) (by trivial) (by decide) (by decide)) (@ae _) (by rfl)) (by decide) (by rfl) (by rfl)) (@aa _ _ _ _ _ (@pv _ 2 _ _ (by rfl) (by trivial) (by decide) (by decide)) (@ae _) (by rfl)) (by rfl)) (by rfl)) (by decide) (by rfl) (by rfl)) (by rfl) (by trivial)) (@ak _ _ _ (@bi _ _ _ _ _ _ _ _ (@aB _ _ _ _ _ _ _ _ eX (@pv _ 5 _ _ (by rfl) (by trivial) (by decide) (by decide)) (@bW _ _ _) (aO _)) (@ak _ _ _ (@aE _ _ _ _ (@pv _ 5 _ _ (by rfl) (by trivial) (by decide) (by decide)))) (@aS _)))) (@aS _)))) (by intro _; rfl)) (@ak _ _ _ (@aE _ _ _ _ (@bW _ _ _)))), ?_⟩
 refine ⟨_, rfl, v, k, rfl, R1, k40, fun H1 l1 us1 s1 hl1 h1 P1 => ?_⟩
 refine ⟨_, rfl, u, j, rfl, R2.mono s1, j40, fun H2 l2 us2 s2 hl2 h2 P2 => ?_⟩
 have P1' := P1.mono s2
 have h1' := s2 _ _ h1
 have s02 := s1.trans s2
 have l1d : l1 ≠ d := fun e => by rw [e, pd.at_] at hl1; cases hl1
 have l2d : l2 ≠ d := fun e => by rw [e, (pd.m s1).at_] at hl2; cases hl2
 refine ⟨l1, l2, rfl, ⟨_, SqL.of h1'⟩, ⟨_, SqL.of h2⟩, iy (xs := us1) (ys := us2) (fun i σ H' => ∃ (o1 o2 o3 : Option V) (en' : List En), σ = [some v, some u, some (.ref d), o1, o2, o3] /\ bq d H2 H' /\ bG H2 H' /\ Pd fn un H' d en' /\ bF (aH en) (k.pts.zip j.pts) = bF (aH en') ((k.pts.zip j.pts).drop i)) ⟨_, _, _, en, rfl, bq.refl _ _, bG.refl _, pd.m s02, rfl⟩ (fun i σ H' ⟨_, _, _, _, _, sx, _⟩ => ⟨SqL.of (sx _ _ l1d h1'), SqL.of (sx _ _ l2d h2)⟩) ?T1 ?_⟩
 case T1 =>
  rintro i x y σ H3 p hx hy ⟨o1, o2, o3, en', rfl, s3, t3, pd3, eh⟩ hp
  obtain ⟨kx, hkx, Rx⟩ := cB P1' hx
  obtain ⟨ky, hky, Ry⟩ := cB P2 hy
  have s4 := ac hp (.tup [x, y])
  have s24 := s3.trans (ao.b d s4)
  have t24 := t3.trans (ao.tups s4)
  have Rx4 := Kd.tupS t24 Rx
  have Ry4 := Kd.tupS t24 Ry
  have pd4 := pd3.m s4
  have t4 : upd H3 p (.tup [x, y]) p = some (.tup [x, y]) := ab
  generalize upd H3 p (.tup [x, y]) = H4 at s4 s24 t24 Rx4 Ry4 t4 pd4 ⊢
  obtain ⟨ax, vx, rfl, hax⟩ := vm Rx4
  obtain ⟨ay, vy, rfl, hay⟩ := vm Ry4
  rw [jf (ig hkx hky)] at eh
  refine ⟨p, _, rfl, SqT.of t4, rfl, _, _, rfl, _, _, rfl, rfl, ?_⟩
  refine ⟨_, rfl, ax, _, 0, .str kx.word, rfl, rfl, SqT.of hax, ah (j := 0) rfl, _, rfl, ay, _, 0, .str ky.word, rfl, rfl, SqT.of hay, ah (j := 0) rfl, rfl, _, rfl, ?_⟩
  have sH := (ao.b d s02).trans s24
  by_cases hw : kx.word = ky.word
  ·rw [show (!decide (V.str kx.word = V.str ky.word)) = false by rw [hw, decide_eq_true rfl]; rfl]
   have eS : bP (aH en') kx ky = match kx.len?, ky.len? with | some a, some b => bindL (aH en') a.1 a.2 ⟨b.1, b.2⟩ | _, _ => .inr (aH en') := by
    unfold bP; rw [if_neg (fun z => z hw)]
   refine cr ⟨_, rfl, .ref ax, kx, rfl, Rx4, fun wx Rwx => ⟨rfl, _, rfl, ?_⟩⟩
   rcases mM Rwx with ⟨e, rfl⟩ | ⟨r, ds, e, ed, Rd⟩
   ·rw [show (!decide (V.non = V.non)) = false by simp]
    refine cr ⟨_, _, _, en', rfl, s24, t24, pd4, ?_⟩
    rw [eh, eS, e]
   ·have hw' : wx ≠ .non := fun z => by subst z; simp only [Rep] at Rd; obtain ⟨_, _, z, _⟩ := Rd; cases z
    rw [show (!decide (wx = V.non)) = true by simp [hw']]
    obtain ⟨r2, e2⟩ := Kd.some_len hw e
    replace eS : bP (aH en') kx ky = bindL (aH en') r.1 r.2 ⟨r2.1, r2.2⟩ := by rw [eS, e, e2]
    have pmx := dm kA kx (List.mem_of_getElem? hkx) r.1 r.2 e
    have gdy : GdK un r2.1 r2.2 := dm jA ky (List.mem_of_getElem? hky) r2.1 r2.2 e2
    refine bR ⟨_, rfl, .ref ax, kx, rfl, Rx4, fun w1 Rw1 => ⟨_, rfl, .ref ay, ky, rfl, Ry4, fun w2 Rw2 => ⟨_, rfl, ?_⟩⟩⟩
    rw [e] at Rw1
    rw [e2] at Rw2
    refine ⟨w1, w2, d, r.1, r.2, ⟨r2.1, r2.2⟩, en', rfl, Rw1, pmx, Rw2, gdy, pd4, f4, u6, fun dv hdv H5 w5 s5 R5 n5 => ?_, fun pls hpl H5 en5 s5 t5 pd5 e5 => ?_⟩
    ·refine gnm ?_
     dsimp only
     refine ⟨_, rfl, rfl, _, rfl, ?_⟩
     rw [show (!decide (w5 = V.non)) = true by simp [n5]]
     rw [eS, hdv] at eh
     exact bR ⟨_, rfl, qf dv eh H5 w5 (sH.trans (ao.b d s5)) R5 n5⟩
    ·refine gnm ?_
     dsimp only
     refine ⟨_, rfl, rfl, _, rfl, ?_⟩
     rw [show (!decide (V.non = V.non)) = false by simp]
     rw [eS, hpl] at eh
     exact cr ⟨_, _, _, en5, rfl, s24.trans s5, t24.trans t5, pd5, by rw [eh, e5]⟩
  ·rw [show (!decide (V.str kx.word = V.str ky.word)) = true by rw [decide_eq_false (wne hw)]; rfl]
   have eS : bP (aH en') kx ky = .inl (.tup [.str "unlike"]) := by unfold bP; rw [if_pos hw]
   rw [eS] at eh
   exact bR ⟨z1, fun r hr' => qf _ eh _ _ (sH.trans (ao.b d (ac hr' _))) (iP ab) nofun⟩
 rintro σ H3 ⟨o1, o2, o3, en', rfl, s3, t3, pd3, eh⟩
 have e1 := P1.length
 have e2 := P2.length
 rw [List.length_map] at e1 e2
 rw [e1, e2, List.drop_eq_nil_of_le (by rw [List.length_zip]; exact Nat.le_refl _)] at eh
 exact qo (aH en') eh H3 en' ((ao.b d s02).trans s3) ((ao.tups s02).trans t3) pd3 rfl
def kC (fn un : List Str) : Sp := fun vs H Q _ => ∃ (v : V) (a1 a2 : Addr) (names : List Str) (ks js : List Kd) (us1 us2 : List V), vs = [v, .ref a1, .ref a2] /\ Rep H (.tup (names.map Dv.str)) v /\ H a1 = some (.lst us1) /\ Reps H (ks.map Kd.dv) us1 /\ H a2 = some (.lst us2) /\ Reps H (js.map Kd.dv) us2 /\
 (∀ k ∈ ks, k.size <= 100 /\ k.All (Pm fn)) /\ (∀ k ∈ js, k.size <= 100 /\ k.All (GdK un)) /\ fn.length <= 4 /\ un.length <= 6 /\ names.length <= 4 /\ (∀ pls, cV [] (ks.zip js) = .inr pls -> ∀ x ∈ names, x ∈ aA pls) /\ ∀ H' w, ao H H' -> Rep H' (fH names (ks.zip js)) w -> Q w H'
theorem mG : aW ["names", "params", "given", "places", "param", "arg", "fault"] ["names", "params", "given"] (aj fj) := ⟨rfl, rfl, rfl, by decide +kernel, rfl, by decide +kernel, by decide +kernel⟩
theorem dO {H : Hp} : ∀ {ns : List Str} {ws : List V}, Reps H (ns.map Dv.str) ws -> ws = ns.map V.str
 | [], ws, h => by simpa only [List.map_nil, Reps] using h
 | n :: ns, ws, h => by
  simp only [List.map_cons, Reps] at h
  obtain ⟨v, r, rfl, h1, h2⟩ := h
  simp only [Rep] at h1
  rw [h1, dO h2]; rfl
theorem vq {fn un : List Str} {H : Hp} {d : Addr} {en : List En} (pd : Pd fn un H d en) {x : Str} (h : x ∈ aA (aH en)) : ∃ v, cw (enK en) (Sum.inr x) = some v /\ Rep H (plD (plS (aH en) x)) v := by
 have h1 := kW en x
 rw [decide_eq_true h] at h1
 rw [<- lR]
 rw [kq] at h1 ⊢
 unfold cp
 cases e : en.find? (fun e => decide (e.1 = x)) with
 | none => rw [e] at h1; cases h1
 | some y => exact ⟨y.2.1, rfl, (pd.ok.all y (List.mem_of_find?_eq_some e)).1⟩
theorem sD {f : Addr} {fd : FuncData} {k0 : Nat} {fn un : List Str} (F : Fun K "bound" "bound" fj f fd) (T : Txt K mg) (Dbind_kind : Def P w K mg base k0 "bind_kind" ["param", "given", "places"] (ku fn un)) : br P w K mg base CX0 (k0 + 1) f fd ["names", "params", "given"] (kC fn un) := by
 have nd : (["names", "params", "given", "places", "param", "arg", "fault"] : List Str).Nodup := mG.nd
 refine F.ok mG (fun vs H Q E h => ?_) (fun cdv A outer s H vs Q E hr h => ?_)
 ·obtain ⟨v, a1, a2, names, ks, js, us1, us2, rfl, _⟩ := h
  rfl
 obtain ⟨v, a1, a2, names, ks, js, us1, us2, rfl, Rn, h1, R1, h2, R2, kA, jA, f4, u6, n4, hb, q⟩ := h
 have hu := cW hr
 obtain ⟨b, ws, rfl, hbn, Rw⟩ := Rep.tup_inv Rn
 have ew := dO Rw
 subst ew
 refine ⟨_, (@ag _ _ _ _ _ (@aM _ _ (3) _ _ _ _ nd rfl (Or.inr rfl) (@dI _ _) (by rfl) (by trivial)) (@ag _ _ _ _ _ (@cv _ _ _ _ _ _ _ _ PassesOwn.never rfl (@lZ _ _ _ _ _ _ _ _ _ rfl T.zip (@aa _ _ _ _ _ (@pv _ 1 _ _ (by rfl) (by trivial) (by decide) (by decide)) (@aa _ _ _ _ _ (@pv _ 2 _ _ (by rfl) (by trivial) (by decide) (by decide)) (@ae _) (by rfl)) (by rfl)) (by rfl) (by rfl)) (@bT _ _ _ _ _ _ rfl (@aQ _ _ _ _ _ (@aG _ _ (4) _ nd rfl (Or.inl rfl) (by trivial)) (@aQ _ _ _ _ _ (@aG _ _ (5) _ nd rfl (Or.inl rfl) (by trivial)) (@bA _) (by rfl)) (by rfl)) (by rfl) (by rfl)) (@ag _ _ _ _ _ (@aM _ _ (6) _ _ _ _ nd rfl (Or.inl rfl) (@aI _ _ _ _ _ _ _ _ _ _ Dbind_kind hr rfl (@aa _ _ _ _ _ (@pv _ 4 _ _ (by rfl) (by trivial) (by decide) (by decide)) (@aa _ _ _ _ _ (@pv _ 5 _ _ (by rfl) (by trivial) (by decide) (by decide)) (@aa _ _ _ _ _ (@pv _ 3 _ _ (by rfl) (by trivial) (by decide) (by decide)) (@ae _) (by rfl)) (by rfl)) (by rfl)) (by decide) (by rfl) (by rfl)) (by rfl) (by trivial)) (@ak _ _ _ (@bi _ _ _ _ _ _ _ _ (@aB _ _ _ _ _ _ _ _ eX (@pv _ 6 _ _ (by rfl) (by trivial) (by decide) (by decide)) (@bW _ _ _) (aO _)) (@ak _ _ _ (@aE _ _ _ _ (@pv _ 6 _ _ (by rfl) (by trivial) (by decide) (by decide)))) (@aS _)))) (by intro _; rfl)) (@ak _ _ _ (@aE _ _ _ _ (@av _ _ _ _ _ (@aa _ _ _ _ _ (@aY _ _ _ _) (@aa _ _ _ _ _ (@aZ _ _ _ _ _ _ _ _ _ ba rfl T.tuple (by decide +kernel) (@aa _ _ _ _ _ (@dq _ _ (["name"]) ([3]) _ _ _ _ _ _ _ _ _ (@bX _ _ _ _ (@pv _ 0 _ _ (by rfl) (by trivial) (by decide) (by decide))) (.of rfl) rfl (fun _ _ _ => aG (i := 0) (bL (l := ["name", "places"]) ((by decide +kernel)) rfl) rfl (Or.inl rfl)) (bK (by decide)) (fun _ _ _ => (@cu _)) (fun _ _ _ => (@fP _ _ _ _ _ _ hu (@pv _ 1 _ _ (by rfl) (by trivial) (by decide) (by decide)) (@pv _ 0 _ _ (by rfl) (by trivial) (by decide) (by decide)) (fun _ _ => rfl))) (by intro _; rfl)) (@ae _) (by rfl)) (by decide) (by decide) (by rfl) (by rfl)) (@ae _) (by rfl)) (by rfl))))))), ?_⟩
 intro d hd
 have s0 : ao H (upd H d (.dK [])) := ac hd _
 have pd0 : Pd fn un (upd H d (.dK [])) d [] := ⟨ab, ⟨by simp⟩, ⟨by simp [aA, aH], by simp [aA, aH], by simp [aH]⟩⟩
 generalize upd H d (.dK []) = H0 at s0 pd0 ⊢
 refine ⟨_, rfl, _, rfl, a1, a2, rfl, ⟨_, SqL.of (s0 _ _ h1)⟩, ⟨_, SqL.of (s0 _ _ h2)⟩, iy (xs := us1) (ys := us2) (fun i σ H' => ∃ (o1 o2 o3 : Option V) (en' : List En), σ = [some (.ref b), some (.ref a1), some (.ref a2), some (.ref d), o1, o2, o3] /\ ao H H' /\ bG H H' /\ Pd fn un H' d en' /\ cV [] (ks.zip js) = cV (aH en') ((ks.zip js).drop i)) ⟨_, _, _, [], rfl, s0, ao.tups s0, pd0, rfl⟩ (fun i σ H' ⟨_, _, _, _, _, sx, _⟩ => ⟨SqL.of (sx _ _ h1), SqL.of (sx _ _ h2)⟩) ?T1 ?_⟩
 case T1 =>
  rintro i x y σ H3 p hx hy ⟨o1, o2, o3, en', rfl, s3, t3, pd3, eh⟩ hp
  obtain ⟨kx, hkx, Rx⟩ := cB R1 hx
  obtain ⟨ky, hky, Ry⟩ := cB R2 hy
  have s4 := ac hp (.tup [x, y])
  have s04 := s3.trans s4
  have t04 := t3.trans (ao.tups s4)
  have pd4 := pd3.m s4
  have Rx4 := Rx.mono s04
  have Ry4 := Ry.mono s04
  rw [jg (ig hkx hky)] at eh
  refine ⟨p, _, rfl, SqT.of ab, rfl, _, _, rfl, _, _, rfl, rfl, ?_⟩
  generalize upd H3 p (.tup [x, y]) = H4 at s4 s04 t04 Rx4 Ry4 pd4 ⊢
  obtain ⟨k1, k2⟩ := kA kx (List.mem_of_getElem? hkx)
  obtain ⟨j1, j2⟩ := jA ky (List.mem_of_getElem? hky)
  refine ⟨_, rfl, _, rfl, _, rfl, x, y, d, kx, ky, en', rfl, Rx4, Ry4, k1, j1, k2, j2, pd4, f4, u6, fun dv hdv H5 w5 s5 R5 n5 => ?_, fun pls hpl H5 en5 s5 t5 pd5 e5 => ?_⟩
  ·refine gnm ?_
   dsimp only
   refine ⟨_, rfl, rfl, _, rfl, ?_⟩
   rw [show (!decide (w5 = V.non)) = true by simp [n5]]
   rw [hdv] at eh
   refine bR ⟨_, rfl, q H5 w5 (fun g o e => s5 g o (ai e hd) (s04 _ _ e)) ?_⟩
   unfold fH
   rw [eh]
   exact R5
  ·refine gnm ?_
   dsimp only
   refine ⟨_, rfl, rfl, _, rfl, ?_⟩
   rw [show (!decide (V.non = V.non)) = false by simp]
   rw [hpl] at eh
   exact cr ⟨_, _, _, en5, rfl, fun g o e => s5 g o (ai e hd) (s04 _ _ e), t04.trans t5, pd5, by rw [eh, e5]⟩
 rintro σ H3 ⟨o1, o2, o3, en', rfl, s3, t3, pd3, eh⟩
 have e1 := R1.length
 have e2 := R2.length
 rw [List.length_map] at e1 e2
 rw [e1, e2, List.drop_eq_nil_of_le (by rw [List.length_zip]; exact Nat.le_refl _)] at eh
 have hk := hb _ eh
 refine ⟨_, rfl, b, rfl, ⟨_, SqT.of (s3 _ _ hbn)⟩, cY (xs := names.map V.str) (fun i ys H' => H' = H3 /\ Reps H3 ((names.take i).map fun x => plD (plS (aH en') x)) ys) ⟨rfl, by simp [Reps]⟩ (fun i ys H' _ p => by rw [p.1]; exact SqT.of (s3 _ _ hbn)) ?L1 ?_⟩
 case L1 =>
  rintro i ys H' x hx ⟨rfl, Ry⟩
  rw [List.getElem?_map] at hx
  obtain ⟨y, hy, rfl⟩ := Option.map_eq_some_iff.mp hx
  have hi : i < names.length := (List.getElem?_eq_some_iff.mp hy).1
  obtain ⟨z, hz, Rz⟩ := vq pd3 (hk y (List.mem_of_getElem? hy))
  refine cM ⟨_, rfl, _, rfl, d, z, rfl, ?_, ?_, rfl, ?_⟩
  ·rw [<- hz]; exact dC.k (k := Sum.inr y) pd3.at_
  ·rw [Ry.length, List.length_map, List.length_take, sizeLine_eq]; omega
  ·rw [List.take_add_one, hy, List.map_append]
   exact Reps.append Ry (bb Rz)
 rintro ys H' ⟨rfl, Ry⟩ r hr'
 rw [List.length_map, List.take_length] at Ry
 refine ⟨r, _, rfl, .inl ⟨SqL.of ab, fun t ht => ⟨z2, fun m hm => ?_⟩⟩⟩
 have p2 := ac hr' (.lst ys)
 have p3 := ac ht (.tup ys)
 have p4 := ac hm (.tup [.str "bound", .ref t])
 refine q _ _ (s3.trans (p2.trans (p3.trans p4))) ?_
 unfold fH
 rw [eh]
 show Rep _ (.tup [.str "bound", .tup (names.map fun x => plD (plS (aH en') x))]) (.ref m)
 have Rt : Rep (upd (upd (upd H' r (.lst ys)) t (.tup ys)) m (.tup [.str "bound", .ref t])) (.tup (names.map fun x => plD (plS (aH en') x))) (.ref t) := by
  rw [Rep]; exact ⟨t, ys, rfl, p4 _ _ ab, Ry.mono (p2.trans (p3.trans p4))⟩
 rw [Rep]
 exact ⟨m, _, rfl, ab, by simp only [Reps]; exact ⟨_, _, rfl, by simp only [Rep], _, _, rfl, Rt, rfl⟩⟩
end
abbrev cO : Stmt := top 23
abbrev fb : Stmt := top 24
abbrev jK : Stmt := top 25
def oe (K : PySem.W.Frag) : Sp := fun vs H Q _ => ∃ (a : Addr) (ns : List Int) (k : Int), vs = [.ref a, .int k] /\ SqL K H a (ns.map V.int) /\ ns.length <= 63 /\ 0 <= k /\ ∀ c, Q (.int c) H
def dY : Sp := fun vs H Q _ => ∃ (c k : Int), vs = [.int c, .int k] /\ ∀ m, 0 <= m -> Q (.int m) H
def mF : Sp := fun vs H Q _ => ∃ (v u : V) (c d : Int) (ps rs : List Pr), vs = [v, u] /\ Rep H (aN c ps) v /\ Rep H (aN d rs) u /\ aR ps /\ aR rs /\ ps.length <= 30 /\ rs.length <= 20 /\
 ∀ (H' : Hp) (w : V) (qs : List Pr), ao H H' -> Rep H' (aN (c + d) qs) w -> aR qs -> (∀ x, tm qs x = tm ps x + tm rs x) -> qs.length <= ps.length + rs.length -> Q w H'
section
variable {P : Program} {w : World} {K : PySem.W.Frag} {mg : Str -> Option Value} {base : Heap}
theorem oE : aW ["_law_script", "_law_k"] ["_law_script", "_law_k"] (aj cO) := ⟨rfl, rfl, rfl, by decide +kernel, rfl, by decide +kernel, by decide +kernel⟩
theorem oK {f : Addr} {fd : FuncData} (F : Fun K "_law_cell_at" "_law_cell_at" cO f fd) (T : Txt K mg) : br P w K mg base CX0 1 f fd ["_law_script", "_law_k"] (oe K) := by
 refine F.ok oE (fun vs H Q E h => ?_) (fun cdv A outer s H vs Q E hr h => ?_)
 ·obtain ⟨a, ns, k, rfl, _⟩ := h
  rfl
 obtain ⟨a, ns, k, rfl, hS, h63, h0, q⟩ := h
 refine ⟨_, (@ag _ _ _ _ _ (@bi _ _ _ _ _ _ _ _ (@aB _ _ _ _ _ _ _ _ vz (@pv _ 1 _ _ (by rfl) (by trivial) (by decide) (by decide)) (@bt _ _ _ _ _ _ _ _ _ bz rfl T.len (by decide +kernel) (@aa _ _ _ _ _ (@pv _ 0 _ _ (by rfl) (by trivial) (by decide) (by decide)) (@ae _) (by rfl)) (by decide) (by decide) (by rfl) (by rfl)) (aO _)) (@ak _ _ _ (@aE _ _ _ _ (@ar _ _ _ _ _ _ _ bJ (@pv _ 0 _ _ (by rfl) (by trivial) (by decide) (by decide)) (@pv _ 1 _ _ (by rfl) (by trivial) (by decide) (by decide)) (fun _ _ => rfl)))) (@aS _)) (@ak _ _ _ (@aE _ _ _ _ (@ad _ _ _ _)))), ?_⟩
 refine ⟨_, rfl, _, rfl, a, _, rfl, .inl hS, _, _, rfl, rfl, _, rfl, ?_⟩
 refine bm (fun c => ?_) (fun c => ?_)
 ·have c' := of_decide_eq_true c
  rw [List.length_map] at c'
  obtain ⟨v, hv⟩ := uJ h0 c'
  exact ⟨_, rfl, _, rfl, a, _, _, _, rfl, rfl, hS, hv, q v⟩
 ·exact q 0
theorem md : aW ["_law_cell", "_law_k", "_law_number", "_law_j"] ["_law_cell", "_law_k"] (aj fb) := ⟨rfl, rfl, rfl, by decide +kernel, rfl, by decide +kernel, by decide +kernel⟩
theorem tw {f : Addr} {fd : FuncData} (F : Fun K "_law_mixed" "_law_mixed" fb f fd) (T : Txt K mg) : br P w K mg base CX0 1 f fd ["_law_cell", "_law_k"] dY := by
 have nd : (["_law_cell", "_law_k", "_law_number", "_law_j"] : List Str).Nodup := md.nd
 refine F.ok md (fun vs H Q E h => ?_) (fun cdv A outer s H vs Q E hr h => ?_)
 ·obtain ⟨c, k, rfl, _⟩ := h
  rfl
 obtain ⟨c, k, rfl, q⟩ := h
 refine ⟨_, (@ag _ _ _ _ _ (@bi _ _ _ _ _ _ _ _ (@PW.pt _ _ _ (@gq _ _ _ _ _ _ _ (@aB _ _ _ _ _ _ _ _ bH (@au _ _ _ _ _ _ _ _ bh (@pv _ 0 _ _ (by rfl) (by trivial) (by decide) (by decide)) (@ad _ _ _ _)) (@ad _ _ _ _) (aO _)) (@fg _ _ _ _ (@aB _ _ _ _ _ _ _ _ eF (@pv _ 0 _ _ (by rfl) (by trivial) (by decide) (by decide)) (@au _ _ _ _ _ _ _ _ lY (@ad _ _ _ _) (@ad _ _ _ _)) (aO _))))) (@ag _ _ _ _ _ (@aM _ _ (2) _ _ _ _ nd rfl (Or.inl rfl) (@au _ _ _ _ _ _ _ _ bh (@au _ _ _ _ _ _ _ _ bv (@pv _ 0 _ _ (by rfl) (by trivial) (by decide) (by decide)) (@ad _ _ _ _)) (@au _ _ _ _ _ _ _ _ lY (@ad _ _ _ _) (@ad _ _ _ _))) (by rfl) (by trivial)) (@ag _ _ _ _ _ (@cv _ _ _ _ _ _ _ _ PassesOwn.never rfl (@gF _ _ _ _ _ _ rfl T.range (@aa _ _ _ _ _ (@au _ _ _ _ _ _ _ _ bh (@pv _ 1 _ _ (by rfl) (by trivial) (by decide) (by decide)) (@ad _ _ _ _)) (@ae _) (by rfl)) (by rfl)) (@aG _ _ (3) _ nd rfl (Or.inl rfl) (by trivial)) (@ak _ _ _ (@aM _ _ (2) _ _ _ _ nd rfl (Or.inl rfl) (@au _ _ _ _ _ _ _ _ bv (@pv _ 2 _ _ (by rfl) (by trivial) (by decide) (by decide)) (@ad _ _ _ _)) (by rfl) (by trivial))) (by intro _; rfl)) (@ak _ _ _ (@aE _ _ _ _ (@pv _ 2 _ _ (by rfl) (by trivial) (by decide) (by decide)))))) (@aS _)) (@ag _ _ _ _ _ (@aM _ _ (2) _ _ _ _ nd rfl (Or.inl rfl) (@au _ _ _ _ _ _ _ _ bh (@au _ _ _ _ _ _ _ _ fI (@au _ _ _ _ _ _ _ _ bw (@au _ _ _ _ _ _ _ _ bw (@au _ _ _ _ _ _ _ _ bh (@pv _ 0 _ _ (by rfl) (by trivial) (by decide) (by decide)) (@au _ _ _ _ _ _ _ _ lY (@ad _ _ _ _) (@ad _ _ _ _))) (@au _ _ _ _ _ _ _ _ fI (@ad _ _ _ _) (@pv _ 1 _ _ (by rfl) (by trivial) (by decide) (by decide)))) (@ad _ _ _ _)) (@ad _ _ _ _)) (@ad _ _ _ _)) (by rfl) (by trivial)) (@ak _ _ _ (@aE _ _ _ _ (@au _ _ _ _ _ _ _ _ bh (@au _ _ _ _ _ _ _ _ fI (@pv _ 2 _ _ (by rfl) (by trivial) (by decide) (by decide)) (@pv _ 2 _ _ (by rfl) (by trivial) (by decide) (by decide))) (@ad _ _ _ _)))))), ?_⟩
 have p15 : uY 10 15 := ⟨by decide, by decide, by decide⟩
 have p60 : uY 10 60 := ⟨by decide, by decide, by decide⟩
 have p30 : uY 10 30 := ⟨by decide, by decide, by decide⟩
 refine ⟨_, rfl, _, _, rfl, rfl, (by show (0 : Int) < 2; decide), rfl, _, rfl, ?_⟩
 have rest : Q (.int 0) H -> True := fun _ => trivial
 have other : ∀ (num : Option V) (j : Option V), ∃ (_ : Unit), True := fun _ _ => ⟨(), trivial⟩
 refine bm (fun h2 => ?_) (fun h2 => ?_)
 ·refine ⟨_, rfl, _, _, rfl, rfl, p15, _, _, rfl, rfl, _, rfl, ?_⟩
  refine bm (fun hb => ?_) (fun hb => ?_)
  ·refine ⟨_, rfl, _, _, rfl, rfl, ⟨by decide, by decide⟩, _, _, rfl, rfl, p60, _, _, rfl, rfl, pk _, ?_⟩
   refine ⟨_, rfl, _, _, rfl, rfl, (by show (0 : Int) < 8; decide), _, rfl, ?_, ?_, gD (fun i σ H' => ∃ (n : Int) (j : Option V), σ = [some (.int c), some (.int k), some (.int n), j] /\ H' = H /\ 0 <= n) ⟨_, _, rfl, rfl, Int.emod_nonneg _ (Int.ne_of_gt (pk _))⟩ ?_ ?_⟩
   ·have := Int.emod_nonneg k (show (8 : Int) ≠ 0 by decide); omega
   ·have := Int.emod_lt_of_pos k (show (0 : Int) < 8 by decide); omega
   ·rintro i σ H' hi ⟨n, j, rfl, rfl, hn⟩
    exact ⟨_, rfl, _, _, rfl, rfl, ⟨by decide, by decide⟩, _, _, rfl, rfl, Int.ediv_nonneg hn (by decide)⟩
   ·rintro σ H' ⟨n, j, rfl, rfl, hn⟩
    exact ⟨_, rfl, q n hn⟩
  ·refine ⟨_, rfl, _, _, rfl, rfl, p30, _, _, rfl, rfl, pk _, _, rfl, _, _, rfl, rfl, .inl ⟨by decide, by decide⟩, _, _, rfl, rfl, _, _, rfl, rfl, _, _, rfl, rfl, .inr ⟨by decide, by decide⟩, _, _, rfl, rfl, (by show (0 : Int) < 2147483647; decide), ?_⟩
   refine ⟨_, rfl, _, rfl, _, _, rfl, rfl, .inl ⟨?_, ?_⟩, _, _, rfl, rfl, (by show (0 : Int) < 2147483629; decide), q _ (Int.emod_nonneg _ (by decide))⟩
   ·exact Int.lt_of_lt_of_le (by decide) (Int.emod_nonneg _ (by decide))
   ·exact Int.lt_trans (Int.emod_lt_of_pos _ (by decide)) (by decide)
 ·refine cr ?_
  refine ⟨_, rfl, _, _, rfl, rfl, p30, _, _, rfl, rfl, pk _, _, rfl, _, _, rfl, rfl, .inl ⟨by decide, by decide⟩, _, _, rfl, rfl, _, _, rfl, rfl, _, _, rfl, rfl, .inr ⟨by decide, by decide⟩, _, _, rfl, rfl, (by show (0 : Int) < 2147483647; decide), ?_⟩
  refine ⟨_, rfl, _, rfl, _, _, rfl, rfl, .inl ⟨?_, ?_⟩, _, _, rfl, rfl, (by show (0 : Int) < 2147483629; decide), q _ (Int.emod_nonneg _ (by decide))⟩
  ·exact Int.lt_of_lt_of_le (by decide) (Int.emod_nonneg _ (by decide))
  ·exact Int.lt_trans (Int.emod_lt_of_pos _ (by decide)) (by decide)
theorem tI : aW ["_law_a", "_law_b", "_law_times", "_law_name", "_law_more"] ["_law_a", "_law_b"] (aj jK) := ⟨rfl, rfl, rfl, by decide +kernel, rfl, by decide +kernel, by decide +kernel⟩
theorem vS {f : Addr} {fd : FuncData} (F : Fun K "_law_sum" "_law_sum" jK f fd) (T : Txt K mg) : br P w K mg base CX0 1 f fd ["_law_a", "_law_b"] mF := by
 have nd : (["_law_a", "_law_b", "_law_times", "_law_name", "_law_more"] : List Str).Nodup := tI.nd
 refine F.ok tI (fun vs H Q E h => ?_) (fun cdv A outer s H vs Q E hr h => ?_)
 ·obtain ⟨v, u, c, d, ps, rs, rfl, _⟩ := h
  rfl
 obtain ⟨v, u, c1, c2, ps, rs0, rfl, R1, R2, C1, C2, l1, l2, qq⟩ := h
 have hu := cW hr
 obtain ⟨a0, a1, us, rfl, ha0, ha1, ru, lu⟩ := bn R1
 obtain ⟨b0, b1, ws, rfl, hb0, hb1, rw', lw⟩ := bn R2
 obtain ⟨zs, ez, hz, ndz, ezd⟩ := cX ru (aD C1.pw)
 refine ⟨_, (@ag _ _ _ _ _ (@aM _ _ (2) _ _ _ _ nd rfl (Or.inr rfl) (@aZ _ _ _ _ _ _ _ _ _ (cT rfl) rfl T.dict (by decide +kernel) (@aa _ _ _ _ _ (@ar _ _ _ _ _ _ _ ap (@pv _ 0 _ _ (by rfl) (by trivial) (by decide) (by decide)) (@ad _ _ _ _) (fun _ _ => rfl)) (@ae _) (by rfl)) (by decide) (by decide) (by rfl) (by rfl)) (by rfl) (by trivial)) (@ag _ _ _ _ _ (@cv _ _ _ _ _ _ _ _ PassesOwn.never rfl (@bX _ _ _ _ (@ar _ _ _ _ _ _ _ ap (@pv _ 1 _ _ (by rfl) (by trivial) (by decide) (by decide)) (@ad _ _ _ _) (fun _ _ => rfl))) (@bT _ _ _ _ _ _ rfl (@aQ _ _ _ _ _ (@aG _ _ (3) _ nd rfl (Or.inl rfl) (by trivial)) (@aQ _ _ _ _ _ (@aG _ _ (4) _ nd rfl (Or.inl rfl) (by trivial)) (@bA _) (by rfl)) (by rfl)) (by rfl) (by rfl)) (@ak _ _ _ (@dg _ _ _ _ _ _ _ _ _ hu (@pv _ 2 _ _ (by rfl) (by trivial) (by decide) (by decide)) (@pv _ 3 _ _ (by rfl) (by trivial) (by decide) (by decide)) (@au _ _ _ _ _ _ _ _ bw (@cD _ _ _ _ _ _ _ _ _ hu (@pv _ 2 _ _ (by rfl) (by trivial) (by decide) (by decide)) (@pv _ 3 _ _ (by rfl) (by trivial) (by decide) (by decide)) (@ad _ _ _ _) ⟨rfl, rfl, rfl, rfl⟩) (@pv _ 4 _ _ (by rfl) (by trivial) (by decide) (by decide))) rfl)) (by intro _; rfl)) (@ak _ _ _ (@aE _ _ _ _ (@av _ _ _ _ _ (@aa _ _ _ _ _ (@au _ _ _ _ _ _ _ _ bw (@ar _ _ _ _ _ _ _ ap (@pv _ 0 _ _ (by rfl) (by trivial) (by decide) (by decide)) (@ad _ _ _ _) (fun _ _ => rfl)) (@ar _ _ _ _ _ _ _ ap (@pv _ 1 _ _ (by rfl) (by trivial) (by decide) (by decide)) (@ad _ _ _ _) (fun _ _ => rfl))) (@aa _ _ _ _ _ (@aZ _ _ _ _ _ _ _ _ _ ba rfl T.tuple (by decide +kernel) (@aa _ _ _ _ _ (@bt _ _ _ _ _ _ _ _ _ lH rfl T.sorted (by decide +kernel) (@aa _ _ _ _ _ (@dq _ _ (["_law_name"]) ([2]) _ _ _ _ _ _ _ _ _ (@pM _ _ _ _ (@pv _ 2 _ _ (by rfl) (by trivial) (by decide) (by decide))) (.of rfl) rfl (fun _ _ _ => aG (i := 0) (bL (l := ["_law_name", "_law_times"]) ((by decide +kernel)) rfl) rfl (Or.inl rfl)) (bK (by decide)) (fun _ _ _ => dR (@aB _ _ _ _ _ _ _ _ eF (@fP _ _ _ _ _ _ hu (@pv _ 1 _ _ (by rfl) (by trivial) (by decide) (by decide)) (@pv _ 0 _ _ (by rfl) (by trivial) (by decide) (by decide)) (fun _ _ => rfl)) (@ad _ _ _ _) (aO _))) (fun _ _ _ => (@av _ _ _ _ _ (@aa _ _ _ _ _ (@pv _ 0 _ _ (by rfl) (by trivial) (by decide) (by decide)) (@aa _ _ _ _ _ (@fP _ _ _ _ _ _ hu (@pv _ 1 _ _ (by rfl) (by trivial) (by decide) (by decide)) (@pv _ 0 _ _ (by rfl) (by trivial) (by decide) (by decide)) (fun _ _ => rfl)) (@ae _) (by rfl)) (by rfl)))) (by intro _; rfl)) (@ae _) (by rfl)) (by decide) (by decide) (by rfl) (by rfl)) (@ae _) (by rfl)) (by decide) (by decide) (by rfl) (by rfl)) (@ae _) (by rfl)) (by rfl))))))), ?_⟩
 refine ⟨_, rfl, a0, _, 1, .ref a1, rfl, rfl, SqT.of ha0, ah (j := 1) rfl, a1, zs, rfl, by rw [ha1, ez], hz, ndz, fun d ht => ?_⟩
 rw [ezd]
 have s0 := ac ht (.dK (dk ps))
 have d0 : upd H d (.dK (dk ps)) d = some (.dK (dk ps)) := ab
 generalize upd H d (.dK (dk ps)) = H0 at s0 d0 ⊢
 refine ⟨_, rfl, b0, _, 1, .ref b1, rfl, rfl, SqT.of (s0 _ _ hb0), ah (j := 1) rfl, b1, rfl, ⟨ws, SqT.of (s0 _ _ hb1)⟩, fK (xs := ws) (fun i σ H' => ∃ (kvs : List Pr) (o1 o2 : Option V), σ = [some (.ref a0), some (.ref b0), some (.ref d), o1, o2] /\ ao H H' /\ H' d = some (.dK (dk kvs)) /\ (kvs.map (·.1)).Nodup /\ kvs.length <= ps.length + i /\ (∀ p ∈ kvs, 1 <= p.2) /\ ∀ x, tm kvs x = tm ps x + eB (rs0.take i) x)
  ⟨ps, _, _, rfl, s0, d0, aD C1.pw, by omega, C1.ge, fun x => by show tm ps x = tm ps x + 0; omega⟩ (fun i σ H' _ ⟨_, _, _, _, s1, _⟩ => SqT.of (s1 _ _ hb1)) ?T1 ?_⟩
 case T1 =>
  rintro i x σ H1 hx ⟨kvs, o1, o2, rfl, s1, d1, ndk, hl, hall, hta⟩
  obtain ⟨p, b, hp, rfl, hb⟩ := bO rw' hx
  have hi : i < ws.length := (List.getElem?_eq_some_iff.mp hx).1
  refine ⟨b, _, rfl, SqT.of (s1 _ _ hb), rfl, _, _, rfl, _, _, rfl, rfl, ?_⟩
  refine ⟨_, rfl, d, rfl, .inl ⟨_, .inl d1⟩, _, rfl, _, dC.k (k := Sum.inr p.1) d1, _, rfl, tm kvs p.1, p.2, iY _ _, rfl, _, rfl, _, rfl, d, _, rfl, gY.k (k := Sum.inr p.1) d1 ?_, ?_⟩
  ·rw [show (dk kvs).length = kvs.length from List.length_map _, sizeLine_eq]; omega
  have hp1 := C2.ge p (List.mem_of_getElem? hp)
  have h0 := bx (fun r hr' => Int.le_trans (by decide) (hall r hr')) p.1
  refine ⟨fG kvs p.1 (tm kvs p.1 + p.2), _, _, rfl, fun e o he => ?_, ?_, gM ndk, Nat.le_trans (iV _ _ _) (by omega), iz (R := fun r => 1 <= r.2) hall (by show 1 <= tm kvs p.1 + p.2; omega), fun x => ?_⟩
  ·rw [aq (ai he ht)]
   exact s1 _ _ he
  ·rw [ab, kF]
  ·rw [tF, jW hp, hta x]
   by_cases e : p.1 = x
   ·subst e; rw [if_pos rfl, if_pos rfl, hta p.1]; omega
   ·rw [if_neg e, if_neg e]; omega
 rintro σ H1 ⟨kvs, o1, o2, rfl, s1, hd, ndk, hkl, hall, hta⟩
 rw [lw, List.take_length] at hta
 have h64 : kvs.length < 64 := by omega
 have q : ∀ (H' : Hp) (v : V) (qs : List Pr), (∀ b o, b ≠ d -> H1 b = some o -> H' b = some o) -> Rep H' (aN (c1 + c2) qs) v -> qs.Perm (kvs.filter fun p => decide (0 < p.2)) -> qs.Pairwise ls -> Q v H' := fun H' v qs sx Rx pq pw => by
  have can : aR qs := ⟨pw, fun p hp => hall p (List.mem_filter.mp (pq.mem_iff.mp hp)).1⟩
  refine qq H' v qs (fun b o e => sx b o (ai e ht) (s1 _ _ e)) Rx can (fun x => ?_) (by rw [pq.length_eq]; have := List.length_filter_le (fun p : Pr => decide (0 < p.2)) kvs; omega)
  rw [fA pw pq x, jC ndk, hta, iu (aD C2.pw)]
  have h0 := bx (fun r hr' => Int.le_trans (by decide) (C1.ge r hr')) x
  have h1 := bx (fun r hr' => Int.le_trans (by decide) (C2.ge r hr')) x
  split <;> omega
 have hlen : (dk kvs).length = kvs.length := List.length_map _
 have at_ : ∀ {i : Nat} {k : Key} {v : V}, (dk kvs)[i]? = some (k, v) -> ∃ p, kvs[i]? = some p /\ k = Sum.inr p.1 /\ v = .int p.2 := fun {i k v} e => by
  unfold dk at e
  rw [List.getElem?_map] at e
  cases e2 : kvs[i]? with
  | none => rw [e2] at e; cases e
  | some p =>
   rw [e2] at e
   have e3 : (Sum.inr p.1, V.int p.2) = (k, v) := Option.some.inj e
   injection e3 with e4 e5
   exact ⟨p, rfl, e4.symm, e5.symm⟩
 refine ⟨_, rfl, a0, _, 0, .int c1, rfl, rfl, SqT.of (s1 _ _ ha0), ah (j := 0) rfl, _, rfl, b0, _, 0, .int c2, rfl, rfl, SqT.of (s1 _ _ hb0), ah (j := 0) rfl, _, _, rfl, rfl, _, rfl, d, _, rfl, hd, fun o => ?_⟩
 refine my (n := kvs.length) (fun i ys H2 => ∃ rs : List TK, ys = rs.map (fun r => V.ref r.1) /\ (∀ b o', b ≠ d -> H1 b = some o' -> H2 b = some o') /\ H2 d = some (.frz o (.dK (dk kvs))) /\ (∀ r ∈ rs, H2 r.1 = some (.tup [.str (tkV r).1, .int (tkV r).2])) /\ rs.map tkV = (kvs.take i).filter fun p => decide (0 < p.2)) ?_ ?_ ?_ ?_ ?_
 ·exact ⟨[], rfl, fun b o' hb e => by rw [aq hb]; exact e, ab, by simp, by simp⟩
 ·rintro i ys H2 hi ⟨rs, rfl, s2, f2, _⟩
  exact ⟨f2, by rw [hlen]; exact hi⟩
 ·rintro ys H2 ⟨rs, rfl, s2, f2, _⟩
  exact ⟨f2, hlen.symm⟩
 ·rintro i ys H2 x H3 hi ⟨rs, rfl, s2, f2, t2, e2⟩ ⟨rfl, k, v, hk, rfl⟩
  obtain ⟨p, hp, rfl, rfl⟩ := at_ hk
  have gd : ∀ H4 : Hp, H4 d = some (.frz o (.dK (dk kvs))) -> dC H4 d (.str p.1) (some (.int p.2)) := fun H4 e => .inl ⟨dk kvs, Sum.inr p.1, .inr ⟨o, e⟩, rfl, (nQ ndk hp).symm⟩
  have ht : kvs.take (i + 1) = kvs.take i ++ [p] := by rw [List.take_add_one, hp]; rfl
  have hrs : rs.length <= 64 := by
   have := congrArg List.length e2
   rw [List.length_map] at this
   have h3 := List.length_filter_le (fun p : Pr => decide (0 < p.2)) (kvs.take i)
   rw [List.length_take] at h3
   omega
  refine eW ⟨_, rfl, _, rfl, d, _, rfl, gd _ f2, _, _, rfl, rfl, _, rfl, ?_⟩
  by_cases hp0 : 0 < p.2
  ·rw [decide_eq_true hp0]
   refine bR ⟨_, rfl, _, rfl, _, rfl, d, _, rfl, gd _ f2, (by show 2 <= sizeLine; rw [sizeLine_eq]; decide), fun a ha => ⟨by rw [List.length_map, sizeLine_eq]; omega, rs ++ [(a, p.1, [.int p.2])], by simp, fun b o' hb e => ?_, ?_, fun r hr' => ?_, ?_⟩⟩
   ·rw [aq (ai (s2 b o' hb e) ha)]; exact s2 b o' hb e
   ·rw [aq (ai f2 ha)]; exact f2
   ·rcases List.mem_append.mp hr' with h | h
    ·rw [aq (ai (t2 r h) ha)]; exact t2 r h
    ·have e := List.mem_singleton.mp h
     subst e
     exact ab
   ·rw [List.map_append, e2, ht, List.filter_append]
    simp [tkV, hp0]
  ·rw [decide_eq_false hp0]
   refine cr ⟨rs, rfl, s2, f2, t2, ?_⟩
   rw [e2, ht, List.filter_append]
   simp [hp0]
 ·rintro ys H2 ⟨rs, rfl, s2, f2, t2, e2⟩ a ha
  rw [List.take_length] at e2
  have n2 : rs.length < 64 := by
   have := congrArg List.length e2
   rw [List.length_map] at this
   have h3 := List.length_filter_le (fun p : Pr => decide (0 < p.2)) kvs
   omega
  have shape : ∀ r ∈ rs, ∃ n, r.2.2 = [.int n] \/ True := fun r _ => ⟨0, .inr trivial⟩
  refine ⟨a, rs.map fun r => (r.1, (tkV r).1, [.int (tkV r).2]), rfl, SqL.of ?_, fun r hr' => ?_, ?_, by rw [List.length_map]; exact n2, fun qs l pq pw hl => ?_⟩
  ·rw [ab, List.map_map]; rfl
  ·obtain ⟨r0, h0, rfl⟩ := List.mem_map.mp hr'
   rw [aq (ai (t2 r0 h0) ha)]
   exact t2 r0 h0
  ·rw [List.map_map]
   have e3 : rs.map ((fun x : TK => x.2.1) ∘ fun r => ((r.1, (tkV r).1, [V.int (tkV r).2]) : TK)) = (rs.map tkV).map (·.1) := by rw [List.map_map]; rfl
   rw [e3, e2]
   exact (List.filter_sublist.map _).nodup ndk
  refine ⟨l, _, rfl, .inl ⟨SqL.of ab, fun u hu' => ⟨(by show 2 <= sizeLine; rw [sizeLine_eq]; decide), fun t ht' => ?_⟩⟩⟩
  have inq : ∀ r ∈ qs, H2 r.1 = some (.tup [.str (tkV r).1, .int (tkV r).2]) := fun r hr' => by
   obtain ⟨r0, h0, rfl⟩ := List.mem_map.mp (pq.mem_iff.mp hr')
   exact t2 r0 h0
  have sm : ∀ b o', H2 b = some o' -> upd (upd (upd (upd H2 a (.lst (rs.map fun r => V.ref r.1))) l (.lst (qs.map fun r => V.ref r.1))) u (.tup (qs.map fun r => V.ref r.1))) t (.tup [.int (c1 + c2), .ref u]) b = some o' :=
   (ac ha _).trans ((ac hl _).trans ((ac hu' _).trans (ac ht' _)))
  refine q _ (.ref t) (qs.map tkV) (fun b o' hb e => sm b o' (s2 b o' hb e)) ?_ ?_ ?_
  ·simp only [aN, Rep, Reps]
   refine ⟨t, _, rfl, ab, _, _, rfl, rfl, _, _, rfl, ⟨u, qs.map fun r => V.ref r.1, rfl, ?_, cg fun r hr' => sm _ _ (inq r hr')⟩, rfl⟩
   rw [aq (ai ab ht'), ab]
  ·have := pq.map tkV
   rw [List.map_map] at this
   have e3 : rs.map (tkV ∘ fun r => ((r.1, (tkV r).1, [V.int (tkV r).2]) : TK)) = rs.map tkV := by rfl
   rw [e3, e2] at this
   exact this
  ·exact List.pairwise_map.mpr (pw.imp fun {x y} h => h)
end
abbrev gr : Stmt := top 26
abbrev eZ : Stmt := top 27
def lJ : Sp := fun vs H Q _ => ∃ (v : V) (d : Addr) (c : Int) (ps : List Pr) (en : List En), vs = [v, .ref d] /\ Rep H (aN c ps) v /\ aR ps /\ ps.length <= 5 /\ (∀ p ∈ ps, p.2 <= 100) /\ H d = some (.dK (enK en)) /\ gZ H en /\
 ∀ (H' : Hp) (w : V) (C : Int) (qs : List Pr), ao H H' -> Rep H' (aN C qs) w -> aR qs -> C = c + dJ (cp en) ps -> (∀ x, tm qs x = cK (cp en) ps x) -> Q w H'
section
variable {P : Program} {w : World} {K : PySem.W.Frag} {mg : Str -> Option Value} {base : Heap}
theorem pG : aW ["_law_a", "_law_places", "_law_found", "_law_name", "_law_times", "_law_other", "_law_parts"] ["_law_a", "_law_places"] (aj gr) := ⟨rfl, rfl, rfl, by decide +kernel, rfl, by decide +kernel, by decide +kernel⟩
theorem uT {f : Addr} {fd : FuncData} {k : Nat} (F : Fun K "_law_put" "_law_put" gr f fd) (T : Txt K mg) (D_law_sum : Def P w K mg base k "_law_sum" ["_law_a", "_law_b"] mF) : br P w K mg base CX0 (k + 1) f fd ["_law_a", "_law_places"] lJ := by
 have nd : (["_law_a", "_law_places", "_law_found", "_law_name", "_law_times", "_law_other", "_law_parts"] : List Str).Nodup := pG.nd
 refine F.ok pG (fun vs H Q E h => ?_) (fun cdv A outer s H vs Q E hr h => ?_)
 ·obtain ⟨v, d, c, ps, en, rfl, _⟩ := h
  rfl
 obtain ⟨v, d, c, ps, en, rfl, R, C1, l5, hle, hd, hen, q⟩ := h
 have hu := cW hr
 obtain ⟨a, a1, us, rfl, ha, ha1, ru, lu⟩ := bn R
 refine ⟨_, (@ag _ _ _ _ _ (@aM _ _ (2) _ _ _ _ nd rfl (Or.inl rfl) (@av _ _ _ _ _ (@aa _ _ _ _ _ (@ar _ _ _ _ _ _ _ ap (@pv _ 0 _ _ (by rfl) (by trivial) (by decide) (by decide)) (@ad _ _ _ _) (fun _ _ => rfl)) (@aa _ _ _ _ _ (@av _ _ _ _ _ (@ae _)) (@ae _) (by rfl)) (by rfl))) (by rfl) (by trivial)) (@ag _ _ _ _ _ (@cv _ _ _ _ _ _ _ _ PassesOwn.never rfl (@bX _ _ _ _ (@ar _ _ _ _ _ _ _ ap (@pv _ 0 _ _ (by rfl) (by trivial) (by decide) (by decide)) (@ad _ _ _ _) (fun _ _ => rfl))) (@bT _ _ _ _ _ _ rfl (@aQ _ _ _ _ _ (@aG _ _ (3) _ nd rfl (Or.inl rfl) (by trivial)) (@aQ _ _ _ _ _ (@aG _ _ (4) _ nd rfl (Or.inr rfl) (by trivial)) (@bA _) (by rfl)) (by rfl)) (by rfl) (by rfl)) (@ag _ _ _ _ _ (@aM _ _ (5) _ _ _ _ nd rfl (Or.inl rfl) (@cD _ _ _ _ _ _ _ _ _ hu (@pv _ 1 _ _ (by rfl) (by trivial) (by decide) (by decide)) (@pv _ 3 _ _ (by rfl) (by trivial) (by decide) (by decide)) (@av _ _ _ _ _ (@aa _ _ _ _ _ (@ad _ _ _ _) (@aa _ _ _ _ _ (@av _ _ _ _ _ (@aa _ _ _ _ _ (@av _ _ _ _ _ (@aa _ _ _ _ _ (@pv _ 3 _ _ (by rfl) (by trivial) (by decide) (by decide)) (@aa _ _ _ _ _ (@ad _ _ _ _) (@ae _) (by rfl)) (by rfl))) (@ae _) (by rfl))) (@ae _) (by rfl)) (by rfl))) ⟨rfl, rfl, rfl, rfl⟩) (by rfl) (by trivial)) (@ag _ _ _ _ _ (@oO _ _ (["_law_inner", "_law_many"]) ([4]) _ _ _ _ _ _ _ _ _ _ _ (6) _ nd rfl rfl (@bX _ _ _ _ (@ar _ _ _ _ _ _ _ ap (@pv _ 5 _ _ (by rfl) (by trivial) (by decide) (by decide)) (@ad _ _ _ _) (fun _ _ => rfl))) (.of rfl) rfl (fun _ _ _ => bT rfl (@aQ _ _ _ _ _ (@aG _ _ (0) _ (bL (l := ["_law_inner", "_law_many", "_law_times"]) ((by decide +kernel)) rfl) rfl (Or.inl rfl) (by trivial)) (@aQ _ _ _ _ _ (@aG _ _ (1) _ (bL (l := ["_law_inner", "_law_many", "_law_times"]) ((by decide +kernel)) rfl) rfl (Or.inl rfl) (by trivial)) (@bA _) (by rfl)) (by rfl))) (gH (by decide) (by decide)) (fun _ _ _ => (@cu _)) (fun _ _ _ => (@av _ _ _ _ _ (@aa _ _ _ _ _ (@pv _ 0 _ _ (by rfl) (by trivial) (by decide) (by decide)) (@aa _ _ _ _ _ (@au _ _ _ _ _ _ _ _ fI (@pv _ 2 _ _ (by rfl) (by trivial) (by decide) (by decide)) (@pv _ 1 _ _ (by rfl) (by trivial) (by decide) (by decide))) (@ae _) (by rfl)) (by rfl)))) (by rfl) (by intro _; rfl)) (@ak _ _ _ (@aM _ _ (2) _ _ _ _ nd rfl (Or.inl rfl) (@aI _ _ _ _ _ _ _ _ _ _ D_law_sum hr rfl (@aa _ _ _ _ _ (@pv _ 2 _ _ (by rfl) (by trivial) (by decide) (by decide)) (@aa _ _ _ _ _ (@av _ _ _ _ _ (@aa _ _ _ _ _ (@au _ _ _ _ _ _ _ _ fI (@pv _ 4 _ _ (by rfl) (by trivial) (by decide) (by decide)) (@ar _ _ _ _ _ _ _ ap (@pv _ 5 _ _ (by rfl) (by trivial) (by decide) (by decide)) (@ad _ _ _ _) (fun _ _ => rfl))) (@aa _ _ _ _ _ (@aZ _ _ _ _ _ _ _ _ _ ba rfl T.tuple (by decide +kernel) (@aa _ _ _ _ _ (@pv _ 6 _ _ (by rfl) (by trivial) (by decide) (by decide)) (@ae _) (by rfl)) (by decide) (by decide) (by rfl) (by rfl)) (@ae _) (by rfl)) (by rfl))) (@ae _) (by rfl)) (by rfl)) (by decide) (by rfl) (by rfl)) (by rfl) (by trivial))))) (by intro _; rfl)) (@ak _ _ _ (@aE _ _ _ _ (@pv _ 2 _ _ (by rfl) (by trivial) (by decide) (by decide)))))), ?_⟩
 refine ⟨_, rfl, a, _, 0, .int c, rfl, rfl, SqT.of ha, ah (j := 0) rfl, Nat.zero_le _, fun e0 he0 => ⟨z2, fun e1 he1 => ?_⟩⟩
 have s1 := (ac he0 (.tup [])).trans (ac he1 (.tup [.int c, .ref e0]))
 have R1 : Rep (upd (upd H e0 (.tup [])) e1 (.tup [.int c, .ref e0])) (aN c []) (.ref e1) := fU (ac he1 _ _ _ ab) ab
 generalize upd (upd H e0 (.tup [])) e1 (.tup [.int c, .ref e0]) = H1 at s1 R1 ⊢
 refine gnm ?_
 dsimp only
 refine ⟨_, rfl, a, _, 1, .ref a1, rfl, rfl, SqT.of (s1 _ _ ha), ah (j := 1) rfl, a1, rfl, ⟨us, SqT.of (s1 _ _ ha1)⟩, fK (xs := us) (fun i σ H' => ∃ (u : V) (C : Int) (qs : List Pr) (o3 o4 o5 o6 : Option V), σ = [some (.ref a), some (.ref d), some u, o3, o4, o5, o6] /\ ao H H' /\ Rep H' (aN C qs) u /\ aR qs /\ C = c + dJ (cp en) (ps.take i) /\ (∀ x, tm qs x = cK (cp en) (ps.take i) x) /\ qs.length <= 6 * i)
  ⟨.ref e1, c, [], _, _, _, _, rfl, s1, R1, ⟨.nil, by simp⟩, by show c = c + 0; omega, fun x => rfl, by simp⟩ (fun i σ H' _ ⟨_, _, _, _, _, _, _, _, sx, _⟩ => SqT.of (sx _ _ ha1)) ?T1 ?_⟩
 case T1 =>
  rintro i x σ H2 hx ⟨u, C, qs, o3, o4, o5, o6, rfl, s2, R2, C2, e2, t2, l2⟩
  obtain ⟨p, b, hp, rfl, hb⟩ := bO ru hx
  have hi : i < us.length := (List.getElem?_eq_some_iff.mp hx).1
  have hpm := List.mem_of_getElem? hp
  have p1 := C1.ge p hpm
  have p2 := hle p hpm
  have G := jU hen p.1
  have ht : ps.take (i + 1) = ps.take i ++ [p] := by rw [List.take_add_one, hp]; rfl
  refine ⟨b, _, rfl, SqT.of (s2 _ _ hb), rfl, _, _, rfl, _, _, rfl, rfl, ?_⟩
  refine ⟨_, rfl, d, rfl, .inl ⟨_, .inl (s2 _ _ hd)⟩, _, rfl, _, rfl, z2, fun f1 hf1 => ⟨z1, fun f2 hf2 => ⟨z2, fun f3 hf3 => ?_⟩⟩⟩
  have q1 := ac hf1 (.tup [.str p.1, .int 1])
  have q2 := ac hf2 (.tup [.ref f1])
  have q3 := ac hf3 (.tup [.int 0, .ref f2])
  have s3 := q1.trans (q2.trans q3)
  have R3 : Rep (upd (upd (upd H2 f1 (.tup [.str p.1, .int 1])) f2 (.tup [.ref f1])) f3 (.tup [.int 0, .ref f2])) (aN 0 [(p.1, 1)]) (.ref f3) := ii (q3 _ _ (q2 _ _ ab)) (q3 _ _ ab) ab
  generalize upd (upd (upd H2 f1 (.tup [.str p.1, .int 1])) f2 (.tup [.ref f1])) f3 (.tup [.int 0, .ref f2]) = H3 at s3 R3 ⊢
  have s03 := s2.trans s3
  refine ⟨_, dC.k (k := Sum.inr p.1) (s03 _ _ hd), ?_⟩
  refine gnm ?_
  dsimp only
  have Ro := tP (hen.mono s03) p.1 R3
  generalize ((cw (enK en) (Sum.inr p.1)).getD (.ref f3)) = ov at Ro ⊢
  obtain ⟨ob, ob1, ous, rfl, hob, hob1, rou, lou⟩ := bn Ro
  refine ⟨_, rfl, ob, _, 1, .ref ob1, rfl, rfl, SqT.of hob, ah (j := 1) rfl, ob1, rfl, ⟨ous, SqT.of hob1⟩, cY (xs := ous) (fun j ys H' => ∃ rs : List TK, ys = rs.map (fun r => V.ref r.1) /\ ao H3 H' /\ (∀ r ∈ rs, H' r.1 = some (.tup [.str (tkV r).1, .int (tkV r).2])) /\ rs.map tkV = ((cp en p.1).ps.take j).map fun z => (z.1, z.2 * p.2)) ⟨[], rfl, ao.refl _, by simp, by simp⟩ (fun j ys H' _ ⟨_, _, sx, _⟩ => SqT.of (sx _ _ hob1)) ?L1 ?_⟩
  case L1 =>
   rintro j ys H4 z hz ⟨rs, rfl, s4, t4, e4⟩
   obtain ⟨r, g, hr', rfl, hg⟩ := bO rou hz
   have hj : j < ous.length := (List.getElem?_eq_some_iff.mp hz).1
   have hrs : rs.length <= 40 := by
    have := congrArg List.length e4
    simp only [List.length_map, List.length_take] at this
    have := G.len
    omega
   refine eQ (s4 _ _ hg) ⟨_, rfl, _, rfl, _, rfl, _, _, rfl, rfl, .inl ⟨by omega, by omega⟩, z2, fun t ht' => ⟨by rw [List.length_map, sizeLine_eq]; omega, rs ++ [(t, r.1, [.int (p.2 * r.2)])], by simp, s4.trans (ac ht' _), fun y hy => ?_, ?_⟩⟩
   ·rcases List.mem_append.mp hy with h | h
    ·exact ac ht' _ _ _ (t4 y h)
    ·rw [List.mem_singleton.mp h]; exact ab
   ·rw [List.map_append, e4, List.take_add_one, hr', List.map_append]
    show _ ++ [(r.1, p.2 * r.2)] = _ ++ [(r.1, r.2 * p.2)]
    rw [Int.mul_comm]
  rintro ys H4 ⟨rs, rfl, s4, t4, e4⟩ l hl
  rw [lou, List.take_length] at e4
  refine gnm ?_
  dsimp only
  have q5 := ac hl (.lst (rs.map fun r => V.ref r.1))
  have s35 := s4.trans q5
  refine ⟨_, rfl, _, rfl, _, rfl, ob, _, 0, .int (cp en p.1).c, rfl, rfl, SqT.of (s35 _ _ hob), ah (j := 0) rfl, _, _, rfl, rfl, .inl ⟨by omega, by omega⟩, _, rfl, l, _, rfl, .inl ⟨SqL.of ab, fun t ht' => ⟨z2, fun m hm => ?_⟩⟩⟩
  have q6 := ac ht' (.tup (rs.map fun r => V.ref r.1))
  have q7 := ac hm (.tup [.int (p.2 * (cp en p.1).c), .ref t])
  have s37 := s35.trans (q6.trans q7)
  have Cs := G.can.scale (n := p.2) p1
  have R7 : Rep (upd (upd (upd H4 l (.lst (rs.map fun r => V.ref r.1))) t (.tup (rs.map fun r => V.ref r.1))) m (.tup [.int (p.2 * (cp en p.1).c), .ref t])) (aN (p.2 * (cp en p.1).c) ((cp en p.1).ps.map fun z => (z.1, z.2 * p.2))) (.ref m) := by
   rw [<- e4]
   exact dc ab (q7 _ _ ab) (cg fun r hr' => q7 _ _ (q6 _ _ (q5 _ _ (t4 r hr'))))
  generalize upd (upd (upd H4 l (.lst (rs.map fun r => V.ref r.1))) t (.tup (rs.map fun r => V.ref r.1))) m (.tup [.int (p.2 * (cp en p.1).c), .ref t]) = H7 at s37 R7 ⊢
  refine ⟨u, .ref m, C, _, qs, _, rfl, R2.mono (s3.trans s37), R7, C2, Cs, by omega, by rw [List.length_map]; have := G.len; omega, fun H8 w8 zs s8 R8 C8 t8 l8 => ?_⟩
  rw [List.length_map] at l8
  refine ⟨w8, _, zs, _, _, _, _, rfl, s03.trans (s37.trans s8), R8, C8, ?_, fun x => ?_, by have := G.len; omega⟩
  ·rw [ht, jG, e2]; omega
  ·rw [ht, jt, t8, t2, mX, Int.mul_comm p.2]
 rintro σ H2 ⟨u, C, qs, o3, o4, o5, o6, rfl, s2, R2, C2, e2, t2, l2⟩
 rw [lu, List.take_length] at e2 t2
 exact ⟨_, rfl, q H2 u C qs s2 R2 C2 e2 t2⟩
end
abbrev dG : Stmt := top 28
structure Dw (xs : List Str) (c : Int) (ps : List Pr) : Prop where
 c0 : 0 <= c
 c1 : c <= 3
 can : aR ps
 all : ∀ p ∈ ps, p.2 <= 3 /\ p.1 ∈ xs
def kR : Sp := fun vs H Q _ => ∃ (c : Int) (b : Addr) (xs : List Str), vs = [.int c, .ref b] /\ H b = some (.lst (xs.map V.str)) /\ 1 <= xs.length /\ xs.length <= 10 /\ ∀ (H' : Hp) (v : V) (c : Int) (ps : List Pr), ao H H' -> Rep H' (aN c ps) v -> Dw xs c ps -> Q v H'
theorem sn {xs : List Str} {k : Int} (h0 : 0 <= k) (h : k < (xs.length : Int)) : ∃ y, y ∈ xs /\ xs[k.toNat]? = some y /\ atI (xs.map V.str) k = some (.str y) := by
 have hk : k.toNat < xs.length := by omega
 refine ⟨xs[k.toNat], List.getElem_mem hk, List.getElem?_eq_getElem hk, ?_⟩
 have q : atI (xs.map V.str) ((k.toNat : Nat) : Int) = some (.str xs[k.toNat]) := ah (by rw [List.getElem?_map, List.getElem?_eq_getElem hk] <;> rfl)
 rwa [show ((k.toNat : Nat) : Int) = k by omega] at q
section
variable {P : Program} {w : World} {K : PySem.W.Frag} {mg : Str -> Option Value} {base : Heap}
theorem mU : aW ["_law_cell", "_law_names", "_law_mixed_here", "_law_times", "_law_k", "_law_name"] ["_law_cell", "_law_names"] (aj eZ) := ⟨rfl, rfl, rfl, by decide +kernel, rfl, by decide +kernel, by decide +kernel⟩
theorem qX {f : Addr} {fd : FuncData} {k : Nat} (F : Fun K "_law_drawn" "_law_drawn" eZ f fd) (T : Txt K mg) (D_law_mixed : Def P w K mg base k "_law_mixed" ["_law_cell", "_law_k"] dY) : br P w K mg base CX0 (k + 1) f fd ["_law_cell", "_law_names"] kR := by
 have nd : (["_law_cell", "_law_names", "_law_mixed_here", "_law_times", "_law_k", "_law_name"] : List Str).Nodup := mU.nd
 refine F.ok mU (fun vs H Q E h => ?_) (fun cdv A outer s H vs Q E hr h => ?_)
 ·obtain ⟨c, b, xs, rfl, _⟩ := h
  rfl
 obtain ⟨c, b, xs, rfl, hb, x1, x10, q⟩ := h
 have hu := cW hr
 refine ⟨_, (@ag _ _ _ _ _ (@aM _ _ (2) _ _ _ _ nd rfl (Or.inl rfl) (@aI _ _ _ _ _ _ _ _ _ _ D_law_mixed hr rfl (@aa _ _ _ _ _ (@pv _ 0 _ _ (by rfl) (by trivial) (by decide) (by decide)) (@aa _ _ _ _ _ (@ad _ _ _ _) (@ae _) (by rfl)) (by rfl)) (by decide) (by rfl) (by rfl)) (by rfl) (by trivial)) (@ag _ _ _ _ _ (@aM _ _ (3) _ _ _ _ nd rfl (Or.inl rfl) (@dI _ _) (by rfl) (by trivial)) (@ag _ _ _ _ _ (@cv _ _ _ _ _ _ _ _ PassesOwn.never rfl (@gF _ _ _ _ _ _ rfl T.range (@aa _ _ _ _ _ (@au _ _ _ _ _ _ _ _ bh (@pv _ 2 _ _ (by rfl) (by trivial) (by decide) (by decide)) (@ad _ _ _ _)) (@ae _) (by rfl)) (by rfl)) (@aG _ _ (4) _ nd rfl (Or.inl rfl) (by trivial)) (@ag _ _ _ _ _ (@aM _ _ (5) _ _ _ _ nd rfl (Or.inl rfl) (@ar _ _ _ _ _ _ _ bJ (@pv _ 1 _ _ (by rfl) (by trivial) (by decide) (by decide)) (@au _ _ _ _ _ _ _ _ bh (@au _ _ _ _ _ _ _ _ eJ (@au _ _ _ _ _ _ _ _ eJ (@pv _ 2 _ _ (by rfl) (by trivial) (by decide) (by decide)) (@ad _ _ _ _)) (@au _ _ _ _ _ _ _ _ bw (@pv _ 4 _ _ (by rfl) (by trivial) (by decide) (by decide)) (@ad _ _ _ _))) (@bt _ _ _ _ _ _ _ _ _ bz rfl T.len (by decide +kernel) (@aa _ _ _ _ _ (@pv _ 1 _ _ (by rfl) (by trivial) (by decide) (by decide)) (@ae _) (by rfl)) (by decide) (by decide) (by rfl) (by rfl))) (fun _ _ => rfl)) (by rfl) (by trivial)) (@ak _ _ _ (@dg _ _ _ _ _ _ _ _ _ hu (@pv _ 3 _ _ (by rfl) (by trivial) (by decide) (by decide)) (@pv _ 5 _ _ (by rfl) (by trivial) (by decide) (by decide)) (@au _ _ _ _ _ _ _ _ bw (@ad _ _ _ _) (@au _ _ _ _ _ _ _ _ bh (@au _ _ _ _ _ _ _ _ eJ (@pv _ 2 _ _ (by rfl) (by trivial) (by decide) (by decide)) (@au _ _ _ _ _ _ _ _ bw (@ad _ _ _ _) (@au _ _ _ _ _ _ _ _ fI (@ad _ _ _ _) (@pv _ 4 _ _ (by rfl) (by trivial) (by decide) (by decide))))) (@ad _ _ _ _))) rfl))) (by intro _; rfl)) (@ak _ _ _ (@aE _ _ _ _ (@av _ _ _ _ _ (@aa _ _ _ _ _ (@au _ _ _ _ _ _ _ _ bh (@au _ _ _ _ _ _ _ _ eJ (@pv _ 2 _ _ (by rfl) (by trivial) (by decide) (by decide)) (@ad _ _ _ _)) (@ad _ _ _ _)) (@aa _ _ _ _ _ (@aZ _ _ _ _ _ _ _ _ _ ba rfl T.tuple (by decide +kernel) (@aa _ _ _ _ _ (@bt _ _ _ _ _ _ _ _ _ (fV rfl) rfl T.sorted (by decide +kernel) (@aa _ _ _ _ _ (@kK _ _ _ _ _ _ _ _ _ PySem.F.plainAttrs_dict PySem.F.slot_dict_items PySem.F.type_dict_items ny (@pv _ 3 _ _ (by rfl) (by trivial) (by decide) (by decide)) (by rfl) (by rfl)) (@ae _) (by rfl)) (by decide) (by decide) (by rfl) (by rfl)) (@ae _) (by rfl)) (by decide) (by decide) (by rfl) (by rfl)) (@ae _) (by rfl)) (by rfl)))))))), ?_⟩
 refine ⟨_, rfl, c, 7, rfl, fun m m0 => ?_⟩
 refine gnm ?_
 dsimp only
 intro d hd
 have s0 : ao H (upd H d (.dK [])) := ac hd _
 have d0 : upd H d (.dK []) d = some (.dK (dk [])) := ab
 generalize upd H d (.dK []) = H0 at s0 d0 ⊢
 obtain ⟨r0, r1⟩ := mod_lt (a := m) 4 (by decide)
 refine gnm ?_
 dsimp only
 refine ⟨_, rfl, _, _, rfl, rfl, (by show (0 : Int) < 4; decide), m % 4, rfl, by omega, by omega, gD (n := (m % 4).toNat) (fun i σ H' => ∃ (kvs : List Pr) (o4 o5 : Option V), σ = [some (.int c), some (.ref b), some (.int m), some (.ref d), o4, o5] /\ ao H H' /\ H' d = some (.dK (dk kvs)) /\ (kvs.map (·.1)).Nodup /\ kvs.length <= i /\ ∀ p ∈ kvs, p.1 ∈ xs /\ 1 <= p.2 /\ p.2 <= 3) ⟨[], _, _, rfl, s0, d0, by simp, by simp, by simp⟩ ?T1 ?_⟩
 case T1 =>
  rintro i σ H1 hi ⟨kvs, o4, o5, rfl, s1, d1, ndk, lk, hall⟩
  obtain ⟨b0, b1⟩ := mod_lt (a := m / 4 / (0 + (i : Int) + 2)) ((xs.map V.str).length : Int) (by rw [List.length_map]; omega)
  rw [List.length_map] at b0 b1
  obtain ⟨y, ym, _, hy⟩ := sn (xs := xs) b0 b1
  refine ⟨_, rfl, _, rfl, _, _, rfl, rfl, ⟨by decide, by decide⟩, _, rfl, _, _, rfl, rfl, _, _, rfl, rfl, ⟨by show (0 : Int) < 0 + (i : Int) + 2; omega, by show 0 + (i : Int) + 2 < _; omega⟩, _, rfl, b, _, rfl, .inl (SqL.of (s1 _ _ hb)), _, _, rfl, rfl, (by show (0 : Int) < ((xs.map V.str).length : Int); rw [List.length_map]; omega), b, _, _, .str y, rfl, rfl, SqL.of (s1 _ _ hb), by rw [List.length_map]; exact hy, ?_⟩
  refine gnm ?_
  dsimp only
  obtain ⟨g0, g1⟩ := mod_lt (a := m / (60 + 7 * (0 + (i : Int)))) 3 (by decide)
  refine ⟨_, rfl, _, rfl, _, _, rfl, rfl, .inl ⟨by decide, by decide⟩, _, _, rfl, rfl, _, _, rfl, rfl, ⟨by show (0 : Int) < 60 + 7 * (0 + (i : Int)); omega, by show 60 + 7 * (0 + (i : Int)) < _; omega⟩, _, _, rfl, rfl, (by show (0 : Int) < 3; decide), _, _, rfl, rfl, _, rfl, _, rfl, d, _, rfl, gY.k (k := Sum.inr y) d1 ?_, ?_⟩
  ·rw [show (dk kvs).length = kvs.length from List.length_map _, sizeLine_eq]; omega
  refine ⟨fG kvs y (1 + m / (60 + 7 * (0 + (i : Int))) % 3), _, _, rfl, fun e o he => ?_, ?_, gM ndk, Nat.le_trans (iV _ _ _) (by omega), iz (R := fun p => p.1 ∈ xs /\ 1 <= p.2 /\ p.2 <= 3) hall ⟨ym, by show 1 <= 1 + m / (60 + 7 * (0 + (i : Int))) % 3; omega, by show 1 + m / (60 + 7 * (0 + (i : Int))) % 3 <= 3; omega⟩⟩
  ·rw [aq (ai he hd)]; exact s1 _ _ he
  ·rw [ab, kF]
 rintro σ H1 ⟨kvs, o4, o5, rfl, s1, d1, ndk, lk, hall⟩
 obtain ⟨g0, g1⟩ := mod_lt (a := m / 900) 4 (by decide)
 refine ⟨_, rfl, _, _, rfl, rfl, ⟨by decide, by decide⟩, _, _, rfl, rfl, (by show (0 : Int) < 4; decide), ?_⟩
 refine ⟨_, rfl, .inr (.inr (.inl ⟨rfl, .inl ⟨_, d1⟩⟩)), d, _, rfl, rfl, d1, fun v hv => ?_⟩
 refine ⟨v, d, kvs.map fun p => (p.1, V.int p.2), rfl, ab, by rw [aq (ai d1 hv), d1, List.map_map]; rfl, by rw [List.length_map]; omega, fun H4 l4 qs s4 _ hq hl4 pq pw => ⟨l4, _, rfl, .inl ⟨SqL.of hl4, fun t ht => ⟨z2, fun p hp => ?_⟩⟩⟩⟩
 obtain ⟨perm, can, rep⟩ := mw hq pq pw fun p hp => (hall p hp).2.1
 have s5 := (ac hv (mo v d)).trans (s4.trans (ac ht (.tup (qs.map fun r => V.ref r.1))))
 have s6 := ac hp (.tup [.int (m / 900 % 4), .ref t])
 exact q _ _ _ _ (s1.trans (s5.trans s6)) (rC ab ((rep t ht).mono s6)) ⟨g0, by omega, can, fun x hx => ⟨(hall x (perm.mem_iff.mp hx)).2.2, (hall x (perm.mem_iff.mp hx)).1⟩⟩
end
structure Nst (al : List Str) (m : Nat) (H : Hp) (fa ma : Addr) : Prop where
 fr : H fa = some (.lst ((al.drop m).reverse.map V.str))
 mt : H ma = some (.lst ((al.take m).map V.str))
 le : m <= al.length
structure Lw (al : List Str) (m m' : Nat) (c : Int) (ps : List Pr) : Prop where
 c0 : 0 <= c
 c1 : c <= 2
 can : aR ps
 len : ps.length <= 2
 le : ∀ p ∈ ps, p.2 <= 3 /\ p.1 ∈ al
 mm : m <= m' /\ m' <= al.length
 one : (aF (al.take m) ps).length <= 1
 fr : al.take m' = al.take m ++ (aF (al.take m) ps).map (·.1)
def dH (fa ma : Addr) (H H' : Hp) : Prop := ∀ g o, g ≠ fa -> g ≠ ma -> H g = some o -> H' g = some o
theorem gU {bs : List Str} {ps : List Pr} (h : ∀ p ∈ ps, p.1 ∈ bs) : aF bs ps = [] := by
 unfold aF
 rw [List.filter_eq_nil_iff]
 intro p hp
 simp [h p hp]
def iJ : Sp := fun vs H Q _ => ∃ (c : Int) (fa ma : Addr) (al : List Str) (m : Nat), vs = [.int c, .ref fa, .ref ma] /\ Nst al m H fa ma /\ al.Nodup /\ al.length <= 4 /\ fa ≠ ma /\ ∀ (H' : Hp) (v : V) (c : Int) (ps : List Pr) (m' : Nat), dH fa ma H H' -> Nst al m' H' fa ma -> Rep H' (aN c ps) v -> Lw al m m' c ps -> Q v H'
theorem vM {α : Type} {l : List α} {a : α} (nd : l.Nodup) (ha : a ∈ l) (h : ∀ x ∈ l, x = a) : l = [a] := by
 match l, nd, ha, h with
 | [x], _, _, h => rw [h x List.mem_cons_self]
 | x :: y :: r, nd, _, h =>
  have h1 := h x List.mem_cons_self
  have h2 := h y (List.mem_cons_of_mem _ List.mem_cons_self)
  exact absurd (List.nodup_cons.mp nd).1 (fun z => z (by rw [h1, <- h2]; exact List.mem_cons_self))
theorem vA {ps : List Pr} (h : aR ps) : ps.Nodup := by
 have h2 := aD h.pw
 rw [List.Nodup, List.pairwise_map] at h2
 exact h2.imp fun z e => z (by rw [e])
theorem lM (x : Str) {n : Int} (h : 1 <= n) : aR [(x, n)] := ⟨List.pairwise_singleton _ _, fun p hp => by rw [List.mem_singleton.mp hp]; exact h⟩
theorem sY (x : Str) (n : Int) (y : Str) : tm [(x, n)] y = if x = y then n else 0 := rfl
theorem qO {bs : List Str} {x : Str} {ps qs : List Pr} (C : aR ps) (Q : aR qs) (hp : ∀ p ∈ ps, p.1 ∈ bs) (hx : x ∉ bs) (h : ∀ y, tm qs y = tm ps y + tm [(x, 1)] y) : aF bs qs = [(x, 1)] /\ ∀ q ∈ qs, q = (x, 1) \/ q ∈ ps := by
 have x0 : tm ps x = 0 := bN fun p hp' e => hx (e ▸ hp p hp')
 have xq : (x, (1 : Int)) ∈ qs := by
  have e := h x
  rw [x0, sY, if_pos rfl] at e
  obtain ⟨p, hp', e2⟩ := cS (ps := qs) (x := x) (by omega)
  have e3 := bI (aD Q.pw) hp'
  rw [e2, e] at e3
  have : p = (x, 1) := Prod.ext e2 (by rw [<- e3]; rfl)
  rw [<- this]; exact hp'
 have all : ∀ q ∈ qs, q = (x, 1) \/ q ∈ ps := fun q hq => by
  have e := bI (aD Q.pw) hq
  rw [h q.1, sY] at e
  by_cases hx' : x = q.1
  ·rw [if_pos hx', <- hx', x0] at e
   exact .inl (Prod.ext hx'.symm (by rw [<- e]; rfl))
  ·rw [if_neg hx'] at e
   have ge := Q.ge q hq
   obtain ⟨p, hp', e2⟩ := cS (ps := ps) (x := q.1) (by omega)
   have e3 := bI (aD C.pw) hp'
   rw [e2] at e3
   have : p = q := Prod.ext e2 (by omega)
   exact .inr (this ▸ hp')
 refine ⟨vM (List.filter_sublist.nodup (vA Q)) (List.mem_filter.mpr ⟨xq, by simp [hx]⟩) fun q hq => ?_, all⟩
 obtain ⟨h1, h2⟩ := List.mem_filter.mp hq
 rcases all q h1 with e | e
 ·exact e
 ·have := hp q e
  simp [this] at h2
section
variable {P : Program} {w : World} {K : PySem.W.Frag} {mg : Str -> Option Value} {base : Heap}
theorem jF : aW ["_law_cell", "_law_free", "_law_met", "_law_mixed_here", "_law_length_here"] ["_law_cell", "_law_free", "_law_met"] (aj dG) := ⟨rfl, rfl, rfl, by decide +kernel, rfl, by decide +kernel, by decide +kernel⟩
theorem qJ {f : Addr} {fd : FuncData} {k : Nat} (F : Fun K "_law_length" "_law_length" dG f fd) (T : Txt K mg) (D_law_mixed : Def P w K mg base k "_law_mixed" ["_law_cell", "_law_k"] dY) (D_law_sum : Def P w K mg base k "_law_sum" ["_law_a", "_law_b"] mF) : br P w K mg base CX0 (k + 1) f fd ["_law_cell", "_law_free", "_law_met"] iJ := by
 have nd : (["_law_cell", "_law_free", "_law_met", "_law_mixed_here", "_law_length_here"] : List Str).Nodup := jF.nd
 refine F.ok jF (fun vs H Q E h => ?_) (fun cdv A outer s H vs Q E hr h => ?_)
 ·obtain ⟨c, fa, ma, al, m, rfl, _⟩ := h
  rfl
 obtain ⟨cl, fa, ma, al, m, rfl, N0, nda, l4, fm, q⟩ := h
 refine ⟨_, (@ag _ _ _ _ _ (@aM _ _ (3) _ _ _ _ nd rfl (Or.inl rfl) (@aI _ _ _ _ _ _ _ _ _ _ D_law_mixed hr rfl (@aa _ _ _ _ _ (@pv _ 0 _ _ (by rfl) (by trivial) (by decide) (by decide)) (@aa _ _ _ _ _ (@ad _ _ _ _) (@ae _) (by rfl)) (by rfl)) (by decide) (by rfl) (by rfl)) (by rfl) (by trivial)) (@ag _ _ _ _ _ (@aM _ _ (4) _ _ _ _ nd rfl (Or.inl rfl) (@av _ _ _ _ _ (@aa _ _ _ _ _ (@au _ _ _ _ _ _ _ _ bh (@pv _ 3 _ _ (by rfl) (by trivial) (by decide) (by decide)) (@ad _ _ _ _)) (@aa _ _ _ _ _ (@av _ _ _ _ _ (@ae _)) (@ae _) (by rfl)) (by rfl))) (by rfl) (by trivial)) (@ag _ _ _ _ _ (@bi _ _ _ _ _ _ _ _ (@PW.pt _ _ _ (@gq _ _ _ _ _ _ _ (@aB _ _ _ _ _ _ _ _ eF (@bt _ _ _ _ _ _ _ _ _ bz rfl T.len (by decide +kernel) (@aa _ _ _ _ _ (@pv _ 2 _ _ (by rfl) (by trivial) (by decide) (by decide)) (@ae _) (by rfl)) (by decide) (by decide) (by rfl) (by rfl)) (@ad _ _ _ _) (aO _)) (@fg _ _ _ _ (@aB _ _ _ _ _ _ _ _ bH (@au _ _ _ _ _ _ _ _ bh (@au _ _ _ _ _ _ _ _ bv (@pv _ 3 _ _ (by rfl) (by trivial) (by decide) (by decide)) (@ad _ _ _ _)) (@ad _ _ _ _)) (@ad _ _ _ _) (aO _))))) (@ak _ _ _ (@aM _ _ (4) _ _ _ _ nd rfl (Or.inl rfl) (@aI _ _ _ _ _ _ _ _ _ _ D_law_sum hr rfl (@aa _ _ _ _ _ (@pv _ 4 _ _ (by rfl) (by trivial) (by decide) (by decide)) (@aa _ _ _ _ _ (@av _ _ _ _ _ (@aa _ _ _ _ _ (@ad _ _ _ _) (@aa _ _ _ _ _ (@av _ _ _ _ _ (@aa _ _ _ _ _ (@av _ _ _ _ _ (@aa _ _ _ _ _ (@ar _ _ _ _ _ _ _ bJ (@pv _ 2 _ _ (by rfl) (by trivial) (by decide) (by decide)) (@au _ _ _ _ _ _ _ _ bh (@au _ _ _ _ _ _ _ _ bv (@pv _ 3 _ _ (by rfl) (by trivial) (by decide) (by decide)) (@ad _ _ _ _)) (@bt _ _ _ _ _ _ _ _ _ bz rfl T.len (by decide +kernel) (@aa _ _ _ _ _ (@pv _ 2 _ _ (by rfl) (by trivial) (by decide) (by decide)) (@ae _) (by rfl)) (by decide) (by decide) (by rfl) (by rfl))) (fun _ _ => rfl)) (@aa _ _ _ _ _ (@au _ _ _ _ _ _ _ _ bw (@ad _ _ _ _) (@au _ _ _ _ _ _ _ _ bh (@au _ _ _ _ _ _ _ _ bv (@pv _ 3 _ _ (by rfl) (by trivial) (by decide) (by decide)) (@ad _ _ _ _)) (@ad _ _ _ _))) (@ae _) (by rfl)) (by rfl))) (@ae _) (by rfl))) (@ae _) (by rfl)) (by rfl))) (@ae _) (by rfl)) (by rfl)) (by decide) (by rfl) (by rfl)) (by rfl) (by trivial))) (@aS _)) (@ag _ _ _ _ _ (@bi _ _ _ _ _ _ _ _ (@PW.pt _ _ _ (@gq _ _ _ _ _ _ _ (@aB _ _ _ _ _ _ _ _ eF (@bt _ _ _ _ _ _ _ _ _ bz rfl T.len (by decide +kernel) (@aa _ _ _ _ _ (@pv _ 1 _ _ (by rfl) (by trivial) (by decide) (by decide)) (@ae _) (by rfl)) (by decide) (by decide) (by rfl) (by rfl)) (@ad _ _ _ _) (aO _)) (@fg _ _ _ _ (@aB _ _ _ _ _ _ _ _ eF (@au _ _ _ _ _ _ _ _ bh (@au _ _ _ _ _ _ _ _ bv (@pv _ 3 _ _ (by rfl) (by trivial) (by decide) (by decide)) (@ad _ _ _ _)) (@ad _ _ _ _)) (@ad _ _ _ _) (aO _))))) (@ag _ _ _ _ _ (@fZ _ _ _ _ (@mB _ _ _ _ _ _ _ _ _ _ _ _ PySem.F.plainAttrs_list PySem.F.slot_list_append PySem.F.type_list_append ff (@pv _ 2 _ _ (by rfl) (by trivial) (by decide) (by decide)) (@aa _ _ _ _ _ (@kK _ _ _ _ _ _ _ _ _ PySem.F.plainAttrs_list PySem.F.slot_list_pop PySem.F.type_list_pop rW (@pv _ 1 _ _ (by rfl) (by trivial) (by decide) (by decide)) (by rfl) (by rfl)) (@ae _) (by rfl)) (by rfl) (by rfl) (by rfl) (by rfl) (by rfl)) (by rfl)) (@ak _ _ _ (@aM _ _ (4) _ _ _ _ nd rfl (Or.inl rfl) (@aI _ _ _ _ _ _ _ _ _ _ D_law_sum hr rfl (@aa _ _ _ _ _ (@pv _ 4 _ _ (by rfl) (by trivial) (by decide) (by decide)) (@aa _ _ _ _ _ (@av _ _ _ _ _ (@aa _ _ _ _ _ (@ad _ _ _ _) (@aa _ _ _ _ _ (@av _ _ _ _ _ (@aa _ _ _ _ _ (@av _ _ _ _ _ (@aa _ _ _ _ _ (@ar _ _ _ _ _ _ _ bJ (@pv _ 2 _ _ (by rfl) (by trivial) (by decide) (by decide)) (@xf _ _ _ _ _ _ wp (@ad _ _ _ _)) (fun _ _ => rfl)) (@aa _ _ _ _ _ (@ad _ _ _ _) (@ae _) (by rfl)) (by rfl))) (@ae _) (by rfl))) (@ae _) (by rfl)) (by rfl))) (@ae _) (by rfl)) (by rfl)) (by decide) (by rfl) (by rfl)) (by rfl) (by trivial)))) (@aS _)) (@ak _ _ _ (@aE _ _ _ _ (@pv _ 4 _ _ (by rfl) (by trivial) (by decide) (by decide)))))))), ?_⟩
 refine ⟨_, rfl, cl, 3, rfl, fun x x0 => ?_⟩
 refine gnm ?_
 dsimp only
 obtain ⟨c0, c1⟩ := mod_lt (a := x) 3 (by decide)
 refine ⟨_, rfl, _, _, rfl, rfl, (by show (0 : Int) < 3; decide), Nat.zero_le _, fun e0 he0 => ⟨z2, fun e1 he1 => ?_⟩⟩
 have s1 := (ac he0 (.tup [])).trans (ac he1 (.tup [.int (x % 3), .ref e0]))
 have R1 : Rep (upd (upd H e0 (.tup [])) e1 (.tup [.int (x % 3), .ref e0])) (aN (x % 3) []) (.ref e1) := fU (ac he1 _ _ _ ab) ab
 generalize upd (upd H e0 (.tup [])) e1 (.tup [.int (x % 3), .ref e0]) = H1 at s1 R1 ⊢
 refine gnm ?_
 dsimp only
 have lt : (al.take m).length = m := by rw [List.length_take]; have := N0.le; omega
 refine nG (fun σ' H2 => ∃ (v : V) (ps : List Pr), σ' = [some (.int cl), some (.ref fa), some (.ref ma), some (.int x), some v] /\ ao H H2 /\ Rep H2 (aN (x % 3) ps) v /\ aR ps /\ ps.length <= 1 /\ ∀ p ∈ ps, p.2 <= 3 /\ p.1 ∈ al.take m) ?N1 (fun nx => ?_)
 case N1 =>
  rintro _ H2 ⟨v, ps, rfl, s2, R2, C2, l2, a2⟩
  have f2 := s2 _ _ N0.fr
  have m2 := s2 _ _ N0.mt
  have stay : ∀ (H' : Hp), ao H2 H' -> Q v H' := fun H' sx => q H' v _ ps m (fun g o _ _ e => sx _ _ (s2 _ _ e)) ⟨sx _ _ f2, sx _ _ m2, N0.le⟩ (R2.mono sx) ⟨c0, by omega, C2, by omega, fun p hp => ⟨(a2 p hp).1, List.mem_of_mem_take (a2 p hp).2⟩, ⟨Nat.le_refl _, N0.le⟩, by rw [gU fun p hp => (a2 p hp).2]; exact Nat.zero_le _, by rw [gU fun p hp => (a2 p hp).2]; simp⟩
  refine iq (0 < (al.drop m).length) ?A1 ?A0 (fun qT qF => ⟨_, rfl, fa, _, rfl, .inl (SqL.of f2), _, _, rfl, rfl, _, rfl, bm (fun h1 => ⟨_, rfl, _, _, rfl, rfl, ⟨by decide, by decide⟩, _, _, rfl, rfl, (by show (0 : Int) < 3; decide), _, _, rfl, rfl, _, rfl, bm (fun _ => ifT (qT (by have h1' := of_decide_eq_true h1; rw [List.length_map, List.length_reverse] at h1'; omega))) (fun _ => ifF qF)⟩) (fun _ => qF)⟩)
  case A0 => exact cr ⟨_, rfl, stay H2 (ao.refl _)⟩
  case A1 =>
   intro hl
   have hm : m < al.length := by rw [List.length_drop] at hl; omega
   have ed : al.drop m = al[m] :: al.drop (m + 1) := List.drop_eq_getElem_cons hm
   have et : al.take (m + 1) = al.take m ++ [al[m]] := by rw [List.take_add_one, List.getElem?_eq_getElem hm]; rfl
   have xn : al[m] ∉ al.take m := fun z => by
    have h1 : (al.take (m + 1)).Nodup := (List.take_sublist _ _).nodup nda
    rw [et, List.nodup_append] at h1
    exact h1.2.2 _ z _ (by simp) rfl
   rw [ed, List.reverse_cons, List.map_append, List.map_cons, List.map_nil] at f2
   refine bR ⟨_, rfl, .inl ⟨rfl, _, SqL.of m2⟩, _, rfl, .inl ⟨rfl, _, SqL.of f2⟩, fa, _, _, rfl, rfl, f2, mK _ _, ?_⟩
   rw [List.dropLast_concat]
   have f3 : upd H2 fa (.lst ((al.drop (m + 1)).reverse.map V.str)) fa = some (.lst ((al.drop (m + 1)).reverse.map V.str)) := ab
   have m3 : upd H2 fa (.lst ((al.drop (m + 1)).reverse.map V.str)) ma = some (.lst ((al.take m).map V.str)) := by rw [aq (Ne.symm fm)]; exact m2
   have sB := bq.upd H2 fa (.lst ((al.drop (m + 1)).reverse.map V.str))
   have tB := sB.tups f2
   generalize upd H2 fa (.lst ((al.drop (m + 1)).reverse.map V.str)) = H3 at f3 m3 sB tB ⊢
   refine ⟨ma, _, _, rfl, rfl, m3, by rw [List.length_map, lt, sizeLine_eq]; have := N0.le; omega, ?_⟩
   have sC := bq.upd H3 ma (.lst ((al.take m).map V.str ++ [.str al[m]]))
   have tC := sC.tups m3
   have f4 := sC _ _ fm f3
   have m4 : upd H3 ma (.lst ((al.take m).map V.str ++ [.str al[m]])) ma = some (.lst ((al.take m).map V.str ++ [.str al[m]])) := ab
   generalize upd H3 ma (.lst ((al.take m).map V.str ++ [.str al[m]])) = H4 at sC tC f4 m4 ⊢
   have R4 := bS (tB.trans tC) (bQ _ _) R2
   refine ⟨_, rfl, _, rfl, 1, rfl, ma, _, _, _, rfl, rfl, SqL.of m4, tW _ _, z2, fun g1 hg1 => ⟨z1, fun g2 hg2 => ⟨z2, fun g3 hg3 => ?_⟩⟩⟩
   have q1 := ac hg1 (.tup [.str al[m], .int 1])
   have q2 := ac hg2 (.tup [.ref g1])
   have q3 := ac hg3 (.tup [.int 0, .ref g2])
   have s47 := q1.trans (q2.trans q3)
   have R7 : Rep (upd (upd (upd H4 g1 (.tup [.str al[m], .int 1])) g2 (.tup [.ref g1])) g3 (.tup [.int 0, .ref g2])) (aN 0 [(al[m], 1)]) (.ref g3) := ii (q3 _ _ (q2 _ _ ab)) (q3 _ _ ab) ab
   generalize upd (upd (upd H4 g1 (.tup [.str al[m], .int 1])) g2 (.tup [.ref g1])) g3 (.tup [.int 0, .ref g2]) = H7 at s47 R7 ⊢
   refine ⟨v, .ref g3, _, _, ps, _, rfl, R4.mono s47, R7, C2, lM _ (Int.le_refl 1), by omega, by show 1 <= 20; decide, fun H8 w8 qs s8 R8 C8 t8 l8 => ?_⟩
   obtain ⟨ef, all⟩ := qO C2 C8 (fun p hp => (a2 p hp).2) xn t8
   refine gnm ?_
   dsimp only
   refine ⟨_, rfl, q H8 w8 _ qs (m + 1) (fun g o hg1 hg2 e => s8 _ _ (s47 _ _ (sC g o hg2 (sB g o hg1 (s2 _ _ e))))) ⟨s8 _ _ (s47 _ _ f4), by rw [et, List.map_append]; exact s8 _ _ (s47 _ _ m4), hm⟩ (by rw [Int.add_zero] at R8; exact R8) ⟨c0, by omega, C8, by rw [List.length_singleton] at l8; omega, fun p hp => ?_, ⟨by omega, hm⟩, by rw [ef]; exact Nat.le_refl 1, by rw [ef, et]; rfl⟩⟩
   rcases all p hp with e | e
   ·rw [e]; exact ⟨by show (1 : Int) <= 3; decide, List.getElem_mem hm⟩
   ·exact ⟨(a2 p e).1, List.mem_of_mem_take (a2 p e).2⟩
 have m1 := s1 _ _ N0.mt
 refine iq (0 < m) ?B1 ?B0 (fun qT qF => ⟨_, rfl, ma, _, rfl, .inl (SqL.of m1), _, _, rfl, rfl, _, rfl, bm (fun h1 => ⟨_, rfl, _, _, rfl, rfl, ⟨by decide, by decide⟩, _, _, rfl, rfl, (by show (0 : Int) < 3; decide), rfl, _, rfl, bm (fun _ => ifT (qT (by have h1' := of_decide_eq_true h1; rw [List.length_map, lt] at h1'; omega))) (fun _ => ifF qF)⟩) (fun _ => qF)⟩)
 case B0 => exact cr (nx _ _ ⟨.ref e1, [], rfl, s1, R1, ⟨.nil, by simp⟩, Nat.zero_le _, by simp⟩)
 case B1 =>
  intro hm
  have hlen : (((al.take m).map V.str).length : Int) = (m : Int) := by rw [List.length_map, lt]
  obtain ⟨b0, b1⟩ := mod_lt (a := x / 9) (((al.take m).map V.str).length : Int) (by omega)
  obtain ⟨y, ym, _, hy⟩ := sn (xs := al.take m) b0 (by rw [lt]; omega)
  obtain ⟨g0, g1⟩ := mod_lt (a := x / 90) 3 (by decide)
  refine bR ⟨_, rfl, _, rfl, _, rfl, _, _, rfl, rfl, ⟨by decide, by decide⟩, _, rfl, ma, _, rfl, .inl (SqL.of m1), _, _, rfl, rfl, (by show (0 : Int) < (((al.take m).map V.str).length : Int); omega), ma, _, _, .str y, rfl, rfl, SqL.of m1, hy, _, rfl, _, _, rfl, rfl, ⟨by decide, by decide⟩, _, _, rfl, rfl, (by show (0 : Int) < 3; decide), _, _, rfl, rfl, z2, fun g1' hg1 => ⟨z1, fun g2' hg2 => ⟨z2, fun g3' hg3 => ?_⟩⟩⟩
  have q1 := ac hg1 (.tup [.str y, .int (1 + x / 90 % 3)])
  have q2 := ac hg2 (.tup [.ref g1'])
  have q3 := ac hg3 (.tup [.int 0, .ref g2'])
  have s47 := q1.trans (q2.trans q3)
  have R7 : Rep (upd (upd (upd H1 g1' (.tup [.str y, .int (1 + x / 90 % 3)])) g2' (.tup [.ref g1'])) g3' (.tup [.int 0, .ref g2'])) (aN 0 [(y, 1 + x / 90 % 3)]) (.ref g3') := ii (q3 _ _ (q2 _ _ ab)) (q3 _ _ ab) ab
  generalize upd (upd (upd H1 g1' (.tup [.str y, .int (1 + x / 90 % 3)])) g2' (.tup [.ref g1'])) g3' (.tup [.int 0, .ref g2']) = H7 at s47 R7 ⊢
  refine ⟨.ref e1, .ref g3', _, _, [], _, rfl, R1.mono s47, R7, ⟨.nil, by simp⟩, lM _ (by omega), by decide, by show 1 <= 20; decide, fun H8 w8 qs s8 R8 C8 t8 l8 => ?_⟩
  have eq : qs = [(y, 1 + x / 90 % 3)] := gG C8 (lM _ (by omega)) fun z => by rw [t8]; show 0 + _ = _; omega
  subst eq
  refine gnm (nx _ _ ⟨w8, _, rfl, s1.trans (s47.trans s8), by rw [Int.add_zero] at R8; exact R8, C8, Nat.le_refl _, fun p hp => ?_⟩)
  rw [List.mem_singleton.mp hp]
  exact ⟨by show 1 + x / 90 % 3 <= 3; omega, ym⟩
end
abbrev fB : Stmt := top 29
theorem ik (ns : List Int) (lo hi : Option Int) : ∃ ms : List Int, cE (ns.map V.int) lo hi = ms.map V.int /\ ms.length <= ns.length := by
 unfold cE
 rw [List.length_map]
 refine ⟨(ns.drop (HT.sIx ns.length 0 lo)).take (HT.sIx ns.length ns.length hi - HT.sIx ns.length 0 lo), by rw [List.map_take, List.map_drop], ?_⟩
 rw [List.length_take, List.length_drop]
 omega
def wlk : List Str -> List Kd -> Option (List Str)
 | bs, [] => some bs
 | bs, k :: ks => match k.len? with
  | none => wlk bs ks
  | some p => if (aF bs p.2).length <= 1 then wlk (bs ++ (aF bs p.2).map (·.1)) ks else none
theorem gf : ∀ (xs ys : List Kd) (bs : List Str), wlk bs (xs ++ ys) = match wlk bs xs with | none => none | some cs => wlk cs ys
 | [], _, _ => rfl
 | x :: xs, ys, bs => by
  show (match x.len? with | none => wlk bs (xs ++ ys) | some p => if (aF bs p.2).length <= 1 then wlk (bs ++ (aF bs p.2).map (·.1)) (xs ++ ys) else none) = match (match x.len? with | none => wlk bs xs | some p => if (aF bs p.2).length <= 1 then wlk (bs ++ (aF bs p.2).map (·.1)) xs else none) with | none => none | some cs => wlk cs ys
  cases x.len? with
  | none => exact gf xs ys bs
  | some p =>
   show (if (aF bs p.2).length <= 1 then _ else _) = match (if (aF bs p.2).length <= 1 then _ else _) with | none => none | some cs => wlk cs ys
   split
   ·exact gf xs ys _
   ·rfl
structure Ld (al : List Str) (c : Int) (ps : List Pr) : Prop where
 c0 : 0 <= c
 c1 : c <= 2
 can : aR ps
 len : ps.length <= 2
 le : ∀ p ∈ ps, p.2 <= 3 /\ p.1 ∈ al
structure KW (al : List Str) (m m' : Nat) (k : Kd) : Prop where
 all : k.All (Ld al)
 wk : wlk (al.take m) k.pts = some (al.take m')
 mm : m <= m' /\ m' <= al.length
theorem Lw.ld {al : List Str} {m m' : Nat} {c : Int} {ps : List Pr} (h : Lw al m m' c ps) : Ld al c ps := ⟨h.c0, h.c1, h.can, h.len, h.le⟩
theorem uF {al : List Str} {m m' : Nat} {c : Int} {ps : List Pr} (h : Lw al m m' c ps) {k : Kd} (e : k.len? = some (c, ps)) (ks : List Kd) : wlk (al.take m) (k :: ks) = wlk (al.take m') ks := by
 show (match k.len? with | none => wlk (al.take m) ks | some p => if (aF (al.take m) p.2).length <= 1 then wlk (al.take m ++ (aF (al.take m) p.2).map (fun q : Pr => q.1)) ks else none) = _
 rw [e]
 show (if (aF (al.take m) ps).length <= 1 then wlk (al.take m ++ (aF (al.take m) ps).map (fun q : Pr => q.1)) ks else none) = _
 rw [if_pos h.one, <- h.fr]
theorem Nst.tups {al : List Str} {m : Nat} {H H' : Hp} {fa ma : Addr} (N : Nst al m H fa ma) (s : dH fa ma H H') : bG H H' := fun b zs e => s b _ (fun z => by rw [z, N.fr] at e; cases e) (fun z => by rw [z, N.mt] at e; cases e) e
theorem Nst.m {al : List Str} {m : Nat} {H H' : Hp} {fa ma : Addr} (N : Nst al m H fa ma) (s : ao H H') : Nst al m H' fa ma := ⟨s _ _ N.fr, s _ _ N.mt, N.le⟩
theorem dH.trans {fa ma : Addr} {H H1 H2 : Hp} (s : dH fa ma H H1) (t : dH fa ma H1 H2) : dH fa ma H H2 := fun g o h1 h2 e => t g o h1 h2 (s g o h1 h2 e)
theorem ao.f {H H' : Hp} (fa ma : Addr) (s : ao H H') : dH fa ma H H' := fun g o _ _ e => s g o e
theorem dH.seq {K : PySem.W.Frag} {fa ma l : Addr} {H H' : Hp} {xs : List V} (s : dH fa ma H H') (h : SqL K H l xs) (h1 : l ≠ fa) (h2 : l ≠ ma) : SqL K H' l xs := by
 rcases h with (h | ⟨o, h⟩) | h
 ·exact .inl (.inl (s _ _ h1 h2 h))
 ·exact .inl (.inr ⟨o, s _ _ h1 h2 h⟩)
 ·exact .inr h
def iU (K : PySem.W.Frag) (n : Nat) : Sp := fun vs H Q _ => ∃ (a fa ma : Addr) (ns : List Int) (al : List Str) (m : Nat) (rm : Int), vs = [.ref a, .ref fa, .ref ma, .int rm] /\ 0 <= rm /\ rm < n /\ SqL K H a (ns.map V.int) /\ ns.length <= 63 /\ Nst al m H fa ma /\ al.Nodup /\ al.length <= 4 /\ fa ≠ ma /\ a ≠ fa /\ a ≠ ma /\
 ∀ (H' : Hp) (v : V) (k : Kd) (m' : Nat), dH fa ma H H' -> Nst al m' H' fa ma -> Rep H' k.dv v -> KW al m m' k -> k.size + 1 <= 2 ^ n -> Q v H'
section
variable {P : Program} {w : World} {K : PySem.W.Frag} {mg : Str -> Option Value} {base : Heap}
theorem pS : aW ["_law_cells", "_law_free", "_law_met", "_law_room", "_law_way", "_law_half", "_law_first", "_law_length_here"] ["_law_cells", "_law_free", "_law_met", "_law_room"] (aj fB) := ⟨rfl, rfl, rfl, by decide +kernel, rfl, by decide +kernel, by decide +kernel⟩
theorem uI {f : Addr} {fd : FuncData} {k0 n : Nat} (F : Fun K "_law_kind" "_law_kind" fB f fd) (T : Txt K mg) (D_law_mixed : Def P w K mg base k0 "_law_mixed" ["_law_cell", "_law_k"] dY) (D_law_length : Def P w K mg base k0 "_law_length" ["_law_cell", "_law_free", "_law_met"] iJ) (D_law_kind : Def P w K mg base k0 "_law_kind" ["_law_cells", "_law_free", "_law_met", "_law_room"] (iU K n)) : br P w K mg base CX0 (k0 + 1) f fd ["_law_cells", "_law_free", "_law_met", "_law_room"] (iU K (n + 1)) := by
 have nd : (["_law_cells", "_law_free", "_law_met", "_law_room", "_law_way", "_law_half", "_law_first", "_law_length_here"] : List Str).Nodup := pS.nd
 refine F.ok pS (fun vs H Q E h => ?_) (fun cdv A outer s H vs Q E hr h => ?_)
 ·obtain ⟨a, fa, ma, ns, al, m, rm, rfl, _⟩ := h
  rfl
 obtain ⟨a, fa, ma, ns, al, m, rm, rfl, r0, rn, hS, h63, N0, nda, l4, fm, af, am, q⟩ := h
 have hu := cW hr
 have huL : (A.deeper (PyProof.Rows.envOfC (Str.ofString "_law_kind") (aj fB) s.heap.objs.size f cdv)).units < cLine := by omega
 refine ⟨_, (@ag _ _ _ _ _ (@bi _ _ _ _ _ _ _ _ (@PW.pt _ _ _ (@oU _ _ _ _ _ _ _ (@aB _ _ _ _ _ _ _ _ (ou huL) (@pv _ 0 _ _ (by rfl) (by trivial) (by decide) (by decide)) (@bC _ _ _ _ (@ae _)) (aO _)) (@kZ _ _ _ _ (@aB _ _ _ _ _ _ _ _ bH (@pv _ 3 _ _ (by rfl) (by trivial) (by decide) (by decide)) (@ad _ _ _ _) (aO _))))) (@ak _ _ _ (@aE _ _ _ _ (@av _ _ _ _ _ (@aa _ _ _ _ _ (@aY _ _ _ _) (@ae _) (by rfl))))) (@aS _)) (@ag _ _ _ _ _ (@aM _ _ (4) _ _ _ _ nd rfl (Or.inl rfl) (@au _ _ _ _ _ _ _ _ bh (@aI _ _ _ _ _ _ _ _ _ _ D_law_mixed hr rfl (@aa _ _ _ _ _ (@ar _ _ _ _ _ _ _ bJ (@pv _ 0 _ _ (by rfl) (by trivial) (by decide) (by decide)) (@ad _ _ _ _) (fun _ _ => rfl)) (@aa _ _ _ _ _ (@ad _ _ _ _) (@ae _) (by rfl)) (by rfl)) (by decide) (by rfl) (by rfl)) (@ad _ _ _ _)) (by rfl) (by trivial)) (@ag _ _ _ _ _ (@bi _ _ _ _ _ _ _ _ (@aB _ _ _ _ _ _ _ _ bH (@pv _ 4 _ _ (by rfl) (by trivial) (by decide) (by decide)) (@ad _ _ _ _) (aO _)) (@ag _ _ _ _ _ (@aM _ _ (5) _ _ _ _ nd rfl (Or.inl rfl) (@au _ _ _ _ _ _ _ _ bw (@ad _ _ _ _) (@au _ _ _ _ _ _ _ _ bv (@bt _ _ _ _ _ _ _ _ _ bz rfl T.len (by decide +kernel) (@aa _ _ _ _ _ (@bY _ _ _ _ _ _ _ _ _ _ fi (@pv _ 0 _ _ (by rfl) (by trivial) (by decide) (by decide)) (@bM _ _ _ (@ad _ _ _ _)) (@dh _)) (@ae _) (by rfl)) (by decide) (by decide) (by rfl) (by rfl)) (@ad _ _ _ _))) (by rfl) (by trivial)) (@ag _ _ _ _ _ (@aM _ _ (6) _ _ _ _ nd rfl (Or.inl rfl) (@aI _ _ _ _ _ _ _ _ _ _ D_law_kind hr rfl (@aa _ _ _ _ _ (@bY _ _ _ _ _ _ _ _ _ _ fi (@pv _ 0 _ _ (by rfl) (by trivial) (by decide) (by decide)) (@bM _ _ _ (@ad _ _ _ _)) (@bM _ _ _ (@pv _ 5 _ _ (by rfl) (by trivial) (by decide) (by decide)))) (@aa _ _ _ _ _ (@pv _ 1 _ _ (by rfl) (by trivial) (by decide) (by decide)) (@aa _ _ _ _ _ (@pv _ 2 _ _ (by rfl) (by trivial) (by decide) (by decide)) (@aa _ _ _ _ _ (@au _ _ _ _ _ _ _ _ dA (@pv _ 3 _ _ (by rfl) (by trivial) (by decide) (by decide)) (@ad _ _ _ _)) (@ae _) (by rfl)) (by rfl)) (by rfl)) (by rfl)) (by decide) (by rfl) (by rfl)) (by rfl) (by trivial)) (@ak _ _ _ (@aE _ _ _ _ (@av _ _ _ _ _ (@aa _ _ _ _ _ (@aY _ _ _ _) (@aa _ _ _ _ _ (@pv _ 6 _ _ (by rfl) (by trivial) (by decide) (by decide)) (@aa _ _ _ _ _ (@aI _ _ _ _ _ _ _ _ _ _ D_law_kind hr rfl (@aa _ _ _ _ _ (@bY _ _ _ _ _ _ _ _ _ _ fi (@pv _ 0 _ _ (by rfl) (by trivial) (by decide) (by decide)) (@bM _ _ _ (@pv _ 5 _ _ (by rfl) (by trivial) (by decide) (by decide))) (@dh _)) (@aa _ _ _ _ _ (@pv _ 1 _ _ (by rfl) (by trivial) (by decide) (by decide)) (@aa _ _ _ _ _ (@pv _ 2 _ _ (by rfl) (by trivial) (by decide) (by decide)) (@aa _ _ _ _ _ (@au _ _ _ _ _ _ _ _ dA (@pv _ 3 _ _ (by rfl) (by trivial) (by decide) (by decide)) (@ad _ _ _ _)) (@ae _) (by rfl)) (by rfl)) (by rfl)) (by rfl)) (by decide) (by rfl) (by rfl)) (@ae _) (by rfl)) (by rfl)) (by rfl))))))) (@aS _)) (@ag _ _ _ _ _ (@bi _ _ _ _ _ _ _ _ (@aB _ _ _ _ _ _ _ _ bH (@pv _ 4 _ _ (by rfl) (by trivial) (by decide) (by decide)) (@ad _ _ _ _) (aO _)) (@ak _ _ _ (@aE _ _ _ _ (@av _ _ _ _ _ (@aa _ _ _ _ _ (@aY _ _ _ _) (@aa _ _ _ _ _ (@aI _ _ _ _ _ _ _ _ _ _ D_law_length hr rfl (@aa _ _ _ _ _ (@ar _ _ _ _ _ _ _ bJ (@pv _ 0 _ _ (by rfl) (by trivial) (by decide) (by decide)) (@ad _ _ _ _) (fun _ _ => rfl)) (@aa _ _ _ _ _ (@bC _ _ _ _ (@ae _)) (@aa _ _ _ _ _ (@pv _ 2 _ _ (by rfl) (by trivial) (by decide) (by decide)) (@ae _) (by rfl)) (by rfl)) (by rfl)) (by decide) (by rfl) (by rfl)) (@ae _) (by rfl)) (by rfl))))) (@aS _)) (@ag _ _ _ _ _ (@bi _ _ _ _ _ _ _ _ (@PW.pt _ _ _ (@gq _ _ _ _ _ _ _ (@aB _ _ _ _ _ _ _ _ bH (@pv _ 4 _ _ (by rfl) (by trivial) (by decide) (by decide)) (@ad _ _ _ _) (aO _)) (@fg _ _ _ _ (@aB _ _ _ _ _ _ _ _ vz (@bt _ _ _ _ _ _ _ _ _ bz rfl T.len (by decide +kernel) (@aa _ _ _ _ _ (@pv _ 0 _ _ (by rfl) (by trivial) (by decide) (by decide)) (@ae _) (by rfl)) (by decide) (by decide) (by rfl) (by rfl)) (@ad _ _ _ _) (aO _))))) (@ak _ _ _ (@aE _ _ _ _ (@av _ _ _ _ _ (@aa _ _ _ _ _ (@aY _ _ _ _) (@ae _) (by rfl))))) (@aS _)) (@ag _ _ _ _ _ (@aM _ _ (7) _ _ _ _ nd rfl (Or.inl rfl) (@aI _ _ _ _ _ _ _ _ _ _ D_law_length hr rfl (@aa _ _ _ _ _ (@ar _ _ _ _ _ _ _ bJ (@pv _ 0 _ _ (by rfl) (by trivial) (by decide) (by decide)) (@ad _ _ _ _) (fun _ _ => rfl)) (@aa _ _ _ _ _ (@pv _ 1 _ _ (by rfl) (by trivial) (by decide) (by decide)) (@aa _ _ _ _ _ (@pv _ 2 _ _ (by rfl) (by trivial) (by decide) (by decide)) (@ae _) (by rfl)) (by rfl)) (by rfl)) (by decide) (by rfl) (by rfl)) (by rfl) (by trivial)) (@ak _ _ _ (@aE _ _ _ _ (@av _ _ _ _ _ (@aa _ _ _ _ _ (@aY _ _ _ _) (@aa _ _ _ _ _ (@pv _ 7 _ _ (by rfl) (by trivial) (by decide) (by decide)) (@aa _ _ _ _ _ (@aI _ _ _ _ _ _ _ _ _ _ D_law_kind hr rfl (@aa _ _ _ _ _ (@bY _ _ _ _ _ _ _ _ _ _ fi (@pv _ 0 _ _ (by rfl) (by trivial) (by decide) (by decide)) (@bM _ _ _ (@ad _ _ _ _)) (@dh _)) (@aa _ _ _ _ _ (@pv _ 1 _ _ (by rfl) (by trivial) (by decide) (by decide)) (@aa _ _ _ _ _ (@pv _ 2 _ _ (by rfl) (by trivial) (by decide) (by decide)) (@aa _ _ _ _ _ (@au _ _ _ _ _ _ _ _ dA (@pv _ 3 _ _ (by rfl) (by trivial) (by decide) (by decide)) (@ad _ _ _ _)) (@ae _) (by rfl)) (by rfl)) (by rfl)) (by rfl)) (by decide) (by rfl) (by rfl)) (@ae _) (by rfl)) (by rfl)) (by rfl))))))))))), ?_⟩
 have p2 : 2 ^ (n + 1) = 2 * 2 ^ n := by rw [Nat.pow_succ, Nat.mul_comm]
 have p1 : 1 <= 2 ^ n := Nat.pow_pos (by decide)
 have whole : ∀ (H1 : Hp), ao H H1 -> 1 <= sizeLine /\ ∀ p, H1 p = none -> Q (.ref p) (upd H1 p (.tup [.str "whole"])) := fun H1 s1 => ⟨z1, fun p hp => q _ _ .whole m (ao.f fa ma (s1.trans (ac hp _))) (N0.m (s1.trans (ac hp _))) (ql ab) ⟨trivial, rfl, ⟨Nat.le_refl _, N0.le⟩⟩ (by show 1 + 1 <= _; omega)⟩
 refine ⟨_, rfl, Nat.zero_le _, fun e he => ⟨a, e, _, rfl, rfl, (ac he (.lst [])).seq hS, SqL.of ab, _, rfl, ?_⟩⟩
 have s1 := ac he (.lst [])
 generalize upd H e (.lst []) = H1 at s1 ⊢
 cases ns with
 | nil => exact bR (bR (whole H1 s1))
 | cons n0 ns =>
 refine cr ⟨_, rfl, rfl, _, rfl, bm (fun _ => whole H1 s1) (fun hr0 => ?_)⟩
 have rm1 : 1 <= rm := by have := neI hr0; omega
 have n1 : 1 <= n := by omega
 have hS1 := s1.seq hS
 have N1 := N0.m s1
 refine ⟨_, rfl, a, _, 0, .int n0, rfl, rfl, hS1, ah (j := 0) rfl, n0, 1, rfl, fun x x0 => ⟨_, _, rfl, rfl, (by show (0 : Int) < 6; decide), ?_⟩⟩
 refine gnm ?_
 dsimp only
 refine ⟨_, rfl, rfl, _, rfl, bm (fun _ => ?_) (fun _ => ?_)⟩
 ·-- a pair
  refine ⟨_, rfl, 1, rfl, a, _, rfl, hS1, fun t1 ht1 => ⟨t1, _, rfl, .inl (SqL.of ab), _, _, rfl, rfl, ⟨by decide, by decide⟩, _, _, rfl, rfl, ?_⟩⟩
  have c1 := ac ht1 (.lst (cE ((n0 :: ns).map V.int) (some 1) none))
  generalize hhalf : (1 : Int) + ((cE ((n0 :: ns).map V.int) (some 1) none).length : Int) / 2 = half
  refine gnm ?_
  dsimp only
  have s2 := s1.trans c1
  have hS2 := s2.seq hS
  have N2 := N0.m s2
  generalize upd H1 t1 (.lst (cE ((n0 :: ns).map V.int) (some 1) none)) = H2 at c1 s2 hS2 N2 ⊢
  refine ⟨_, rfl, 1, rfl, _, rfl, _, rfl, a, _, rfl, hS2, fun t2 ht2 => ?_⟩
  obtain ⟨ms, hms, lms⟩ := ik (n0 :: ns) (some 1) (some half)
  rw [hhalf]
  rw [hms]
  have c3 := ac ht2 (.lst (ms.map V.int))
  have s3 := s2.trans c3
  have N3 := N0.m s3
  have t2f : t2 ≠ fa := fun z => by rw [z, N2.fr] at ht2; cases ht2
  have t2m : t2 ≠ ma := fun z => by rw [z, N2.mt] at ht2; cases ht2
  refine ⟨_, rfl, _, rfl, _, rfl, _, _, rfl, rfl, t2, fa, ma, ms, al, m, rm - 1, rfl, by omega, by omega, SqL.of ab, by omega, N3, nda, l4, fm, t2f, t2m, fun H4 v1 k1 m1 s4 N4 Rk1 kw1 sz1 => ?_⟩
  refine gnm ?_
  dsimp only
  have s04 : dH fa ma H H4 := (ao.f fa ma s3).trans s4
  have hS4 := s04.seq hS af am
  refine ⟨_, rfl, _, rfl, _, rfl, _, rfl, a, _, rfl, hS4, fun t5 ht5 => ?_⟩
  obtain ⟨ms2, hms2, lms2⟩ := ik (n0 :: ns) (some half) none
  rw [hms2]
  have c5 := ac ht5 (.lst (ms2.map V.int))
  have N5 := N4.m c5
  have t5f : t5 ≠ fa := fun z => by rw [z, N4.fr] at ht5; cases ht5
  have t5m : t5 ≠ ma := fun z => by rw [z, N4.mt] at ht5; cases ht5
  refine ⟨_, rfl, _, rfl, _, rfl, _, _, rfl, rfl, t5, fa, ma, ms2, al, m1, rm - 1, rfl, by omega, by omega, SqL.of ab, by omega, N5, nda, l4, fm, t5f, t5m, fun H6 v2 k2 m2 s6 N6 Rk2 kw2 sz2 => ⟨z3, fun p hp => ?_⟩⟩
  have p7 := ac hp (.tup [.str "pair", v1, v2])
  have t46 : bG H4 H6 := (ao.tups c5).trans (N5.tups s6)
  refine q _ _ (.pair k1 k2) m2 (s04.trans ((ao.f fa ma c5).trans (s6.trans (ao.f fa ma p7)))) (N6.m p7) (mJ ab (Kd.tupS (t46.trans (ao.tups p7)) Rk1) (Rk2.mono p7)) ⟨⟨kw1.all, kw2.all⟩, ?_, ⟨Nat.le_trans kw1.mm.1 kw2.mm.1, kw2.mm.2⟩⟩ (by show k1.size + k2.size + 1 + 1 <= _; omega)
  show wlk (al.take m) (k1.pts ++ k2.pts) = _
  rw [gf, kw1.wk]
  exact kw2.wk
 refine ⟨_, rfl, rfl, _, rfl, bm (fun _ => ?_) (fun _ => ?_)⟩
 ·-- a place
  refine ⟨_, rfl, a, _, 0, .int n0, rfl, rfl, hS1, ah (j := 0) rfl, Nat.zero_le _, fun e2 he2 => ?_⟩
  have c2 := ac he2 (.lst [])
  have lt : (al.take m).length = m := by rw [List.length_take]; have := N0.le; omega
  have e2m : e2 ≠ ma := fun z => by rw [z, N1.mt] at he2; cases he2
  have e2f : fa ≠ e2 := ai N1.fr he2
  have N2 : Nst (al.take m) m (upd H1 e2 (.lst [])) e2 ma := ⟨by rw [ab, List.drop_eq_nil_of_le (by omega)]; rfl, by rw [List.take_take, Nat.min_self]; exact c2 _ _ N1.mt, by omega⟩
  refine ⟨_, rfl, n0, e2, ma, al.take m, m, rfl, N2, (List.take_sublist _ _).nodup nda, by rw [lt]; have := N0.le; omega, e2m, fun H3 v c ps m3 s3 N3 Rv lw => ⟨z2, fun p hp => ?_⟩⟩
  have m3e : m3 = m := by have := lw.mm; omega
  subst m3e
  have p4 := ac hp (.tup [.str "place", v])
  have fr0 : aF (al.take m3) ps = [] := by
   have := lw.fr
   rw [List.take_take, Nat.min_self] at this
   have h2 := congrArg List.length this
   rw [List.length_append, List.length_map] at h2
   exact List.eq_nil_of_length_eq_zero (by omega)
  have sH : dH fa ma H (upd H3 p (.tup [.str "place", v])) := fun g o h1 h2 e => p4 _ _ (s3 g o (fun z => by have h := s1 _ _ e; rw [z, he2] at h; cases h) h2 (c2 _ _ (s1 _ _ e)))
  refine q _ _ (.place c ps) m3 sH ⟨p4 _ _ (s3 _ _ e2f fm (c2 _ _ N1.fr)), by have := p4 _ _ N3.mt; rwa [List.take_take, Nat.min_self] at this, N0.le⟩ (jD ab (Rv.mono p4)) ⟨⟨lw.c0, lw.c1, lw.can, lw.len, fun r hr' => ⟨(lw.le r hr').1, List.mem_of_mem_take (lw.le r hr').2⟩⟩, ?_, ⟨Nat.le_refl _, N0.le⟩⟩ (by show 1 + 1 <= _; omega)
  show (if (aF (al.take m3) ps).length <= 1 then wlk (al.take m3 ++ (aF (al.take m3) ps).map (fun q : Pr => q.1)) [] else none) = _
  rw [fr0]
  simp [wlk]
 refine tnx ?_
 dsimp only
 refine iq True ?A1 ?A0 (fun qT qF => ⟨_, rfl, rfl, _, rfl, bm (fun _ => ⟨_, rfl, a, _, rfl, .inl hS1, _, _, rfl, rfl, _, rfl, bm (fun _ => ifT (qT trivial)) (fun _ => ifF qF)⟩) (fun _ => qF)⟩)
 case A1 => exact fun _ => bR (whole H1 s1)
 case A0 =>
  refine cr ?_
  refine ⟨_, rfl, a, _, 0, .int n0, rfl, rfl, hS1, ah (j := 0) rfl, _, rfl, _, rfl, n0, fa, ma, al, m, rfl, N1, nda, l4, fm, fun H2 v c ps m2 s2 N2 Rv lw => ?_⟩
  refine gnm ?_
  dsimp only
  have s02 : dH fa ma H H2 := (ao.f fa ma s1).trans s2
  have hS2 := s02.seq hS af am
  refine ⟨_, rfl, _, rfl, 1, rfl, a, _, rfl, hS2, fun t3 ht3 => ?_⟩
  obtain ⟨ms, hms, lms⟩ := ik (n0 :: ns) (some 1) none
  rw [hms]
  have c3 := ac ht3 (.lst (ms.map V.int))
  have N3 := N2.m c3
  have t3f : t3 ≠ fa := fun z => by rw [z, N2.fr] at ht3; cases ht3
  have t3m : t3 ≠ ma := fun z => by rw [z, N2.mt] at ht3; cases ht3
  refine ⟨_, rfl, _, rfl, _, rfl, _, _, rfl, rfl, t3, fa, ma, ms, al, m2, rm - 1, rfl, by omega, by omega, SqL.of ab, by omega, N3, nda, l4, fm, t3f, t3m, fun H4 v2 k2 m4 s4 N4 Rk2 kw2 sz2 => ⟨z3, fun p hp => ?_⟩⟩
  have p5 := ac hp (.tup [.str "row", v, v2])
  have t24 : bG H2 H4 := (ao.tups c3).trans (N3.tups s4)
  refine q _ _ (.row c ps k2) m4 (s02.trans ((ao.f fa ma c3).trans (s4.trans (ao.f fa ma p5)))) (N4.m p5) (ko ab (bS (t24.trans (ao.tups p5)) (bQ _ _) Rv) (Rk2.mono p5)) ⟨⟨lw.ld, kw2.all⟩, ?_, ⟨Nat.le_trans lw.mm.1 kw2.mm.1, kw2.mm.2⟩⟩ (by show k2.size + 1 + 1 <= _; omega)
  show wlk (al.take m) (.row c ps k2 :: k2.pts) = _
  rw [uF lw rfl, kw2.wk]
end
abbrev dD : Stmt := top 30
abbrev eV : Stmt := top 31
def eD (n : Nat) : Sp := fun vs H Q _ => ∃ (v : V) (k : Kd), vs = [v] /\ Rep H k.dv v /\ k.size <= n /\ n <= 100 /\ ∀ (H' : Hp) (l : Addr) (us : List V), ao H H' -> H l = none -> H' l = some (.lst us) -> Reps H' (k.pts.map ptD) us -> Q (.ref l) H'
theorem vh {un : List Str} {pls : ca} {B : Int} (B0 : 0 <= B) (W : ∀ e ∈ pls, aR e.2.ps /\ 0 <= e.2.c /\ e.2.c <= B /\ ∀ q ∈ e.2.ps, q.2 <= B /\ q.1 ∈ un) : ∀ {qs : List Pr}, (∀ q ∈ qs, 0 <= q.2 /\ q.2 <= 100 /\ q.1 ∈ aA pls) -> (0 <= dJ (plS pls) qs /\ dJ (plS pls) qs <= qs.length * (100 * B)) /\ ∀ x, 0 <= cK (plS pls) qs x /\ cK (plS pls) qs x <= qs.length * (100 * B) /\ (cK (plS pls) qs x ≠ 0 -> x ∈ un)
 | [], _ => ⟨⟨by show (0 : Int) <= 0; decide, by show (0 : Int) <= ((0 : Nat) : Int) * _; simp⟩, fun x => ⟨by show (0 : Int) <= 0; decide, by show (0 : Int) <= ((0 : Nat) : Int) * _; simp, fun h => absurd rfl h⟩⟩
 | q :: qs, h => by
  obtain ⟨⟨i1, i2⟩, i3⟩ := vh B0 W (qs := qs) fun r hr => h r (List.mem_cons_of_mem _ hr)
  obtain ⟨q0, q1, qk⟩ := h q List.mem_cons_self
  obtain ⟨e, he, ee⟩ := pF qk
  obtain ⟨gc, g0, g1, gl⟩ := W e he
  have b1 : 0 <= q.2 * e.2.c := Int.mul_nonneg q0 g0
  have b2 : q.2 * e.2.c <= 100 * B := Int.le_trans (Int.mul_le_mul_of_nonneg_right q1 g0) (Int.mul_le_mul_of_nonneg_left g1 (by decide))
  have el : (((q :: qs).length : Nat) : Int) * (100 * B) = (qs.length : Int) * (100 * B) + 100 * B := by
   rw [List.length_cons, show (((qs.length + 1 : Nat)) : Int) = (qs.length : Int) + 1 from rfl, Int.add_mul, Int.one_mul]
  refine ⟨?_, fun x => ?_⟩
  ·have e1 : dJ (plS pls) (q :: qs) = q.2 * (plS pls q.1).c + dJ (plS pls) qs := rfl
   rw [e1, ee, el]
   constructor <;> omega
  ·obtain ⟨j1, j2, j3⟩ := i3 x
   have e1 : cK (plS pls) (q :: qs) x = q.2 * tm (plS pls q.1).ps x + cK (plS pls) qs x := rfl
   have t0 := bx (fun r hr => Int.le_trans (by decide) (gc.ge r hr)) x
   have t1 := oq (B := B) B0 (fun r hr => (gl r hr).1) x
   have b3 : 0 <= q.2 * tm e.2.ps x := Int.mul_nonneg q0 t0
   have b4 : q.2 * tm e.2.ps x <= 100 * B := Int.le_trans (Int.mul_le_mul_of_nonneg_right q1 t0) (Int.mul_le_mul_of_nonneg_left t1 (by decide))
   rw [e1, ee, el]
   refine ⟨by omega, by omega, fun hn => ?_⟩
   by_cases z : cK (plS pls) qs x = 0
   ·have : tm e.2.ps x ≠ 0 := fun y => hn (by rw [y, Int.mul_zero, z]; rfl)
    obtain ⟨p, hp, rfl⟩ := cS this
    exact (gl p hp).2
   ·exact j3 z
structure Ge (un : List Str) (c : Int) (ps : List Pr) : Prop where
 can : aR ps
 c0 : 0 <= c
 c1 : c <= 1000
 le : ∀ q ∈ ps, q.2 <= 1000 /\ q.1 ∈ un
structure Lp (fn un : List Str) (H : Hp) (d : Addr) (en : List En) : Prop where
 at_ : H d = some (.dK (enK en))
 ok : gZ H en
 all : ∀ e ∈ aH en, aR e.2.ps /\ 0 <= e.2.c /\ e.2.c <= 3 /\ ∀ q ∈ e.2.ps, q.2 <= 3 /\ q.1 ∈ un
 keys : ∀ x ∈ fn, x ∈ aA (aH en)
theorem Lp.m {fn un : List Str} {H H' : Hp} {d : Addr} {en : List En} (h : Lp fn un H d en) (s : ao H H') : Lp fn un H' d en := ⟨s _ _ h.at_, h.ok.mono s, h.all, h.keys⟩
theorem vp {fn un : List Str} {H : Hp} {d : Addr} {en : List En} {c C : Int} {ps qs : List Pr} (h : Lp fn un H d en) (l : Ld fn c ps) (hC : C = c + dJ (cp en) ps) (Q : aR qs) (hq : ∀ x, tm qs x = cK (cp en) ps x) : Ge un C qs := by
 rw [lR] at hC hq
 obtain ⟨⟨b1, b2⟩, b3⟩ := vh (B := 3) (by decide) h.all (qs := ps) fun q hq' => ⟨by have := l.can.ge q hq'; omega, by have := (l.le q hq').1; omega, h.keys _ (l.le q hq').2⟩
 have ll := l.len
 have c0 := l.c0
 have c1 := l.c1
 refine ⟨Q, by omega, by omega, fun q hq' => ?_⟩
 have e := bI (aD Q.pw) hq'
 have g := Q.ge q hq'
 obtain ⟨_, d2, d3⟩ := b3 q.1
 rw [<- hq, e] at d2 d3
 exact ⟨by omega, d3 (by omega)⟩
def ie (fn un : List Str) (n : Nat) : Sp := fun vs H Q _ => ∃ (v : V) (d : Addr) (k : Kd) (en : List En), vs = [v, .ref d] /\ Rep H k.dv v /\ k.size <= n /\ k.All (Ld fn) /\ Lp fn un H d en /\ ∀ (H' : Hp) (w : V) (k' : Kd), ao H H' -> Rep H' k'.dv w -> k'.All (Ge un) -> k'.size = k.size -> Q w H'
section
variable {P : Program} {w : World} {K : PySem.W.Frag} {mg : Str -> Option Value} {base : Heap}
theorem qR : aW ["_law_kind_here"] ["_law_kind_here"] (aj dD) := ⟨rfl, rfl, rfl, by decide +kernel, rfl, by decide +kernel, by decide +kernel⟩
theorem qU {f : Addr} {fd : FuncData} {k0 n : Nat} (F : Fun K "_law_points" "_law_points" dD f fd) (T : Txt K mg) (D_law_points : Def P w K mg base k0 "_law_points" ["_law_kind_here"] (eD n)) : br P w K mg base CX0 (k0 + 1) f fd ["_law_kind_here"] (eD (n + 1)) := by
 refine F.ok qR (fun vs H Q E h => ?_) (fun cdv A outer s H vs Q E hr h => ?_)
 ·obtain ⟨v, k, rfl, _⟩ := h
  rfl
 obtain ⟨v, k, rfl, R, kn, n1, q⟩ := h
 refine ⟨_, (@ag _ _ _ _ _ (@bi _ _ _ _ _ _ _ _ (@aB _ _ _ _ _ _ _ _ bH (@ar _ _ _ _ _ _ _ ap (@pv _ 0 _ _ (by rfl) (by trivial) (by decide) (by decide)) (@ad _ _ _ _) (fun _ _ => rfl)) (@aY _ _ _ _) (aO _)) (@ak _ _ _ (@aE _ _ _ _ (@bC _ _ _ _ (@aa _ _ _ _ _ (@av _ _ _ _ _ (@aa _ _ _ _ _ (@aY _ _ _ _) (@aa _ _ _ _ _ (@bW _ _ _) (@ae _) (by rfl)) (by rfl))) (@ae _) (by rfl))))) (@aS _)) (@ag _ _ _ _ _ (@bi _ _ _ _ _ _ _ _ (@aB _ _ _ _ _ _ _ _ bH (@ar _ _ _ _ _ _ _ ap (@pv _ 0 _ _ (by rfl) (by trivial) (by decide) (by decide)) (@ad _ _ _ _) (fun _ _ => rfl)) (@aY _ _ _ _) (aO _)) (@ak _ _ _ (@aE _ _ _ _ (@bC _ _ _ _ (@aa _ _ _ _ _ (@av _ _ _ _ _ (@aa _ _ _ _ _ (@ar _ _ _ _ _ _ _ ap (@pv _ 0 _ _ (by rfl) (by trivial) (by decide) (by decide)) (@ad _ _ _ _) (fun _ _ => rfl)) (@aa _ _ _ _ _ (@ar _ _ _ _ _ _ _ ap (@pv _ 0 _ _ (by rfl) (by trivial) (by decide) (by decide)) (@ad _ _ _ _) (fun _ _ => rfl)) (@ae _) (by rfl)) (by rfl))) (@ae _) (by rfl))))) (@aS _)) (@ag _ _ _ _ _ (@bi _ _ _ _ _ _ _ _ (@aB _ _ _ _ _ _ _ _ bH (@ar _ _ _ _ _ _ _ ap (@pv _ 0 _ _ (by rfl) (by trivial) (by decide) (by decide)) (@ad _ _ _ _) (fun _ _ => rfl)) (@aY _ _ _ _) (aO _)) (@ak _ _ _ (@aE _ _ _ _ (@au _ _ _ _ _ _ _ _ oA (@bC _ _ _ _ (@aa _ _ _ _ _ (@av _ _ _ _ _ (@aa _ _ _ _ _ (@ar _ _ _ _ _ _ _ ap (@pv _ 0 _ _ (by rfl) (by trivial) (by decide) (by decide)) (@ad _ _ _ _) (fun _ _ => rfl)) (@aa _ _ _ _ _ (@ar _ _ _ _ _ _ _ ap (@pv _ 0 _ _ (by rfl) (by trivial) (by decide) (by decide)) (@ad _ _ _ _) (fun _ _ => rfl)) (@ae _) (by rfl)) (by rfl))) (@ae _) (by rfl))) (@aI _ _ _ _ _ _ _ _ _ _ D_law_points hr rfl (@aa _ _ _ _ _ (@ar _ _ _ _ _ _ _ ap (@pv _ 0 _ _ (by rfl) (by trivial) (by decide) (by decide)) (@ad _ _ _ _) (fun _ _ => rfl)) (@ae _) (by rfl)) (by decide) (by rfl) (by rfl))))) (@aS _)) (@ak _ _ _ (@aE _ _ _ _ (@au _ _ _ _ _ _ _ _ oA (@au _ _ _ _ _ _ _ _ oA (@bC _ _ _ _ (@aa _ _ _ _ _ (@av _ _ _ _ _ (@aa _ _ _ _ _ (@aY _ _ _ _) (@aa _ _ _ _ _ (@bW _ _ _) (@ae _) (by rfl)) (by rfl))) (@ae _) (by rfl))) (@aI _ _ _ _ _ _ _ _ _ _ D_law_points hr rfl (@aa _ _ _ _ _ (@ar _ _ _ _ _ _ _ ap (@pv _ 0 _ _ (by rfl) (by trivial) (by decide) (by decide)) (@ad _ _ _ _) (fun _ _ => rfl)) (@ae _) (by rfl)) (by decide) (by rfl) (by rfl))) (@aI _ _ _ _ _ _ _ _ _ _ D_law_points hr rfl (@aa _ _ _ _ _ (@ar _ _ _ _ _ _ _ ap (@pv _ 0 _ _ (by rfl) (by trivial) (by decide) (by decide)) (@ad _ _ _ _) (fun _ _ => rfl)) (@ae _) (by rfl)) (by decide) (by rfl) (by rfl)))))))), ?_⟩
 obtain ⟨b, vs, rfl, hb, hv⟩ := Kd.inv R
 have k100 : k.size <= 100 := by omega
 refine ⟨_, rfl, b, _, 0, .str k.word, rfl, rfl, SqT.of hb, ah (j := 0) rfl, rfl, _, rfl, ?_⟩
 cases k with
 | whole =>
  refine bm (fun _ => ⟨z2, fun p hp => ⟨z1, fun l hl => ?_⟩⟩) (fun h => absurd (decide_eq_true rfl) h)
  have q1 := ac hp (.tup [.str "whole", .non])
  have q2 := ac hl (.lst [.ref p])
  exact q _ l [.ref p] (q1.trans q2) (q1.free hl) ab (bb ((ij (k := .whole) ab (by simp only [Kd.len?, gX, Rep])).mono q2))
 | place c ps =>
  obtain ⟨l1, rfl, Rl⟩ := hv
  refine bm (fun h => absurd (of_decide_eq_true h) (wne (Ne.symm nZ))) (fun _ => ?_)
  refine ⟨_, rfl, b, _, 0, .str "place", rfl, rfl, SqT.of hb, ah (j := 0) rfl, rfl, _, rfl, bm (fun _ => ?_) (fun h => absurd (decide_eq_true rfl) h)⟩
  refine ⟨_, rfl, b, _, 0, .str "place", rfl, rfl, SqT.of hb, ah (j := 0) rfl, _, rfl, b, _, 1, l1, rfl, rfl, SqT.of hb, ah (j := 1) rfl, z2, fun p hp => ⟨z1, fun l hl => ?_⟩⟩
  have q1 := ac hp (.tup [.str "place", l1])
  have q2 := ac hl (.lst [.ref p])
  exact q _ l [.ref p] (q1.trans q2) (q1.free hl) ab (bb ((ij (k := .place c ps) ab (Rl.mono q1)).mono q2))
 | row c ps j =>
  obtain ⟨l1, u, rfl, Rl, Ru⟩ := hv
  have jn : j.size <= n := by have : j.size + 1 <= n + 1 := kn; omega
  refine bm (fun h => absurd (of_decide_eq_true h) (wne (Ne.symm kS))) (fun _ => ?_)
  refine ⟨_, rfl, b, _, 0, .str "row", rfl, rfl, SqT.of hb, ah (j := 0) rfl, rfl, _, rfl, bm (fun h => absurd (of_decide_eq_true h) (wne (Ne.symm nJ))) (fun _ => ?_)⟩
  refine ⟨_, rfl, b, _, 0, .str "row", rfl, rfl, SqT.of hb, ah (j := 0) rfl, rfl, _, rfl, bm (fun _ => ?_) (fun h => absurd (decide_eq_true rfl) h)⟩
  refine ⟨_, rfl, b, _, 0, .str "row", rfl, rfl, SqT.of hb, ah (j := 0) rfl, _, rfl, b, _, 1, l1, rfl, rfl, SqT.of hb, ah (j := 1) rfl, z2, fun p hp => ⟨z1, fun l hl => ?_⟩⟩
  have q1 := ac hp (.tup [.str "row", l1])
  have q2 := ac hl (.lst [.ref p])
  have s2 := q1.trans q2
  have Rp := (ij (k := .row c ps j) ab (Rl.mono q1)).mono q2
  have hl2 : upd (upd H p (.tup [.str "row", l1])) l (.lst [.ref p]) l = some (.lst [.ref p]) := ab
  generalize upd (upd H p (.tup [.str "row", l1])) l (.lst [.ref p]) = H2 at s2 Rp hl2 ⊢
  refine ⟨_, rfl, b, _, 2, u, rfl, rfl, SqT.of (s2 _ _ hb), ah (j := 2) rfl, u, j, rfl, Ru.mono s2, jn, by omega, fun H3 l3 us3 s3 hl3 h3 R3 => ?_⟩
  have l3n : us3.length <= 100 := by have := R3.length; rw [List.length_map, Kd.pts_len] at this; omega
  refine ⟨l, l3, _, _, rfl, rfl, s3 _ _ hl2, h3, by rw [sizeLine_eq]; show 1 + us3.length <= _; omega, fun l4 hl4 => ?_⟩
  have q4 := ac hl4 (.lst ([.ref p] ++ us3))
  exact q _ l4 _ (s2.trans (s3.trans q4)) ((s2.trans s3).free hl4) ab (Reps.append (bb (Rp.mono (s3.trans q4))) (R3.mono q4))
 | pair i j =>
  obtain ⟨u, w', rfl, Ru, Rw⟩ := hv
  have ks : i.size + j.size + 1 <= n + 1 := kn
  refine bm (fun h => absurd (of_decide_eq_true h) (wne (Ne.symm qE))) (fun _ => ?_)
  refine ⟨_, rfl, b, _, 0, .str "pair", rfl, rfl, SqT.of hb, ah (j := 0) rfl, rfl, _, rfl, bm (fun h => absurd (of_decide_eq_true h) (wne (Ne.symm kE))) (fun _ => ?_)⟩
  refine ⟨_, rfl, b, _, 0, .str "pair", rfl, rfl, SqT.of hb, ah (j := 0) rfl, rfl, _, rfl, bm (fun h => absurd (of_decide_eq_true h) (wne (Ne.symm lr))) (fun _ => ?_)⟩
  refine ⟨z2, fun p hp => ⟨z1, fun l hl => ?_⟩⟩
  have q1 := ac hp (.tup [.str "pair", .non])
  have q2 := ac hl (.lst [.ref p])
  have s2 := q1.trans q2
  have Rp : Rep (upd (upd H p (.tup [.str "pair", .non])) l (.lst [.ref p])) (ptD (.pair i j)) (.ref p) := (ij (k := .pair i j) ab (by simp only [Kd.len?, gX, Rep])).mono q2
  have hl2 : upd (upd H p (.tup [.str "pair", .non])) l (.lst [.ref p]) l = some (.lst [.ref p]) := ab
  generalize upd (upd H p (.tup [.str "pair", .non])) l (.lst [.ref p]) = H2 at s2 Rp hl2 ⊢
  refine ⟨_, rfl, b, _, 1, u, rfl, rfl, SqT.of (s2 _ _ hb), ah (j := 1) rfl, u, i, rfl, Ru.mono s2, by omega, by omega, fun H3 l3 us3 s3 hl3 h3 R3 => ?_⟩
  have l3n : us3.length = i.size := by have := R3.length; rwa [List.length_map, Kd.pts_len] at this
  have k100' : i.size + j.size + 1 <= 100 := k100
  refine ⟨l, l3, _, _, rfl, rfl, s3 _ _ hl2, h3, by rw [sizeLine_eq]; show 1 + us3.length <= _; omega, fun l4 hl4 => ?_⟩
  have q4 := ac hl4 (.lst ([.ref p] ++ us3))
  have s4 := s2.trans (s3.trans q4)
  have R4 : Reps (upd H3 l4 (.lst ([.ref p] ++ us3))) ((Kd.pair i j :: i.pts).map ptD) ([.ref p] ++ us3) := Reps.append (bb (Rp.mono (s3.trans q4))) (R3.mono q4)
  have h4 : upd H3 l4 (.lst ([.ref p] ++ us3)) l4 = some (.lst ([.ref p] ++ us3)) := ab
  generalize upd H3 l4 (.lst ([.ref p] ++ us3)) = H4 at s4 R4 h4 ⊢
  refine ⟨_, rfl, b, _, 2, w', rfl, rfl, SqT.of (s4 _ _ hb), ah (j := 2) rfl, w', j, rfl, Rw.mono s4, by omega, by omega, fun H5 l5 us5 s5 hl5 h5 R5 => ?_⟩
  have l5n : us5.length = j.size := by have := R5.length; rwa [List.length_map, Kd.pts_len] at this
  refine ⟨l4, l5, _, _, rfl, rfl, s5 _ _ h4, h5, by rw [sizeLine_eq, List.length_append]; show 1 + us3.length + us5.length <= _; omega, fun l6 hl6 => ?_⟩
  have q6 := ac hl6 (.lst ([.ref p] ++ us3 ++ us5))
  refine q _ l6 _ (s4.trans (s5.trans q6)) ((s4.trans s5).free hl6) ab ?_
  have := Reps.append (R4.mono (s5.trans q6)) (R5.mono q6)
  rw [<- List.map_append] at this
  exact this
theorem rP : aW ["_law_kind_here", "_law_places"] ["_law_kind_here", "_law_places"] (aj eV) := ⟨rfl, rfl, rfl, by decide +kernel, rfl, by decide +kernel, by decide +kernel⟩
theorem sK {f : Addr} {fd : FuncData} {k0 n : Nat} {fn un : List Str} (F : Fun K "_law_given" "_law_given" eV f fd) (T : Txt K mg) (D_law_put : Def P w K mg base k0 "_law_put" ["_law_a", "_law_places"] lJ) (D_law_given : Def P w K mg base k0 "_law_given" ["_law_kind_here", "_law_places"] (ie fn un n)) : br P w K mg base CX0 (k0 + 1) f fd ["_law_kind_here", "_law_places"] (ie fn un (n + 1)) := by
 refine F.ok rP (fun vs H Q E h => ?_) (fun cdv A outer s H vs Q E hr h => ?_)
 ·obtain ⟨v, d, k, en, rfl, _⟩ := h
  rfl
 obtain ⟨v, d, k, en, rfl, R, kn, kA, lp, q⟩ := h
 refine ⟨_, (@ag _ _ _ _ _ (@bi _ _ _ _ _ _ _ _ (@aB _ _ _ _ _ _ _ _ bH (@ar _ _ _ _ _ _ _ ap (@pv _ 0 _ _ (by rfl) (by trivial) (by decide) (by decide)) (@ad _ _ _ _) (fun _ _ => rfl)) (@aY _ _ _ _) (aO _)) (@ak _ _ _ (@aE _ _ _ _ (@pv _ 0 _ _ (by rfl) (by trivial) (by decide) (by decide)))) (@aS _)) (@ag _ _ _ _ _ (@bi _ _ _ _ _ _ _ _ (@aB _ _ _ _ _ _ _ _ bH (@ar _ _ _ _ _ _ _ ap (@pv _ 0 _ _ (by rfl) (by trivial) (by decide) (by decide)) (@ad _ _ _ _) (fun _ _ => rfl)) (@aY _ _ _ _) (aO _)) (@ak _ _ _ (@aE _ _ _ _ (@av _ _ _ _ _ (@aa _ _ _ _ _ (@aY _ _ _ _) (@aa _ _ _ _ _ (@aI _ _ _ _ _ _ _ _ _ _ D_law_given hr rfl (@aa _ _ _ _ _ (@ar _ _ _ _ _ _ _ ap (@pv _ 0 _ _ (by rfl) (by trivial) (by decide) (by decide)) (@ad _ _ _ _) (fun _ _ => rfl)) (@aa _ _ _ _ _ (@pv _ 1 _ _ (by rfl) (by trivial) (by decide) (by decide)) (@ae _) (by rfl)) (by rfl)) (by decide) (by rfl) (by rfl)) (@aa _ _ _ _ _ (@aI _ _ _ _ _ _ _ _ _ _ D_law_given hr rfl (@aa _ _ _ _ _ (@ar _ _ _ _ _ _ _ ap (@pv _ 0 _ _ (by rfl) (by trivial) (by decide) (by decide)) (@ad _ _ _ _) (fun _ _ => rfl)) (@aa _ _ _ _ _ (@pv _ 1 _ _ (by rfl) (by trivial) (by decide) (by decide)) (@ae _) (by rfl)) (by rfl)) (by decide) (by rfl) (by rfl)) (@ae _) (by rfl)) (by rfl)) (by rfl))))) (@aS _)) (@ag _ _ _ _ _ (@bi _ _ _ _ _ _ _ _ (@aB _ _ _ _ _ _ _ _ bH (@ar _ _ _ _ _ _ _ ap (@pv _ 0 _ _ (by rfl) (by trivial) (by decide) (by decide)) (@ad _ _ _ _) (fun _ _ => rfl)) (@aY _ _ _ _) (aO _)) (@ak _ _ _ (@aE _ _ _ _ (@av _ _ _ _ _ (@aa _ _ _ _ _ (@aY _ _ _ _) (@aa _ _ _ _ _ (@aI _ _ _ _ _ _ _ _ _ _ D_law_put hr rfl (@aa _ _ _ _ _ (@ar _ _ _ _ _ _ _ ap (@pv _ 0 _ _ (by rfl) (by trivial) (by decide) (by decide)) (@ad _ _ _ _) (fun _ _ => rfl)) (@aa _ _ _ _ _ (@pv _ 1 _ _ (by rfl) (by trivial) (by decide) (by decide)) (@ae _) (by rfl)) (by rfl)) (by decide) (by rfl) (by rfl)) (@ae _) (by rfl)) (by rfl))))) (@aS _)) (@ak _ _ _ (@aE _ _ _ _ (@av _ _ _ _ _ (@aa _ _ _ _ _ (@aY _ _ _ _) (@aa _ _ _ _ _ (@aI _ _ _ _ _ _ _ _ _ _ D_law_put hr rfl (@aa _ _ _ _ _ (@ar _ _ _ _ _ _ _ ap (@pv _ 0 _ _ (by rfl) (by trivial) (by decide) (by decide)) (@ad _ _ _ _) (fun _ _ => rfl)) (@aa _ _ _ _ _ (@pv _ 1 _ _ (by rfl) (by trivial) (by decide) (by decide)) (@ae _) (by rfl)) (by rfl)) (by decide) (by rfl) (by rfl)) (@aa _ _ _ _ _ (@aI _ _ _ _ _ _ _ _ _ _ D_law_given hr rfl (@aa _ _ _ _ _ (@ar _ _ _ _ _ _ _ ap (@pv _ 0 _ _ (by rfl) (by trivial) (by decide) (by decide)) (@ad _ _ _ _) (fun _ _ => rfl)) (@aa _ _ _ _ _ (@pv _ 1 _ _ (by rfl) (by trivial) (by decide) (by decide)) (@ae _) (by rfl)) (by rfl)) (by decide) (by rfl) (by rfl)) (@ae _) (by rfl)) (by rfl)) (by rfl)))))))), ?_⟩
 obtain ⟨b, vs, rfl, hb, hv⟩ := Kd.inv R
 refine ⟨_, rfl, b, _, 0, .str k.word, rfl, rfl, SqT.of hb, ah (j := 0) rfl, rfl, _, rfl, ?_⟩
 cases k with
 | whole => exact bm (fun _ => ⟨_, rfl, q H _ .whole (ao.refl _) R trivial rfl⟩) (fun h => absurd (decide_eq_true rfl) h)
 | place c ps =>
  obtain ⟨l1, rfl, Rl⟩ := hv
  have ld : Ld fn c ps := kA
  refine bm (fun h => absurd (of_decide_eq_true h) (wne (Ne.symm nZ))) (fun _ => ?_)
  refine ⟨_, rfl, b, _, 0, .str "place", rfl, rfl, SqT.of hb, ah (j := 0) rfl, rfl, _, rfl, bm (fun h => absurd (of_decide_eq_true h) (wne kE)) (fun _ => ?_)⟩
  refine ⟨_, rfl, b, _, 0, .str "place", rfl, rfl, SqT.of hb, ah (j := 0) rfl, rfl, _, rfl, bm (fun _ => ?_) (fun h => absurd (decide_eq_true rfl) h)⟩
  refine ⟨_, rfl, b, _, 1, l1, rfl, rfl, SqT.of hb, ah (j := 1) rfl, _, rfl, l1, d, c, ps, en, rfl, Rl, ld.can, by have := ld.len; omega, fun p hp => by have := (ld.le p hp).1; omega, lp.at_, lp.ok, fun H1 w1 C qs s1 R1 C1 e1 t1 => ⟨z2, fun p hp => ?_⟩⟩
  have q2 := ac hp (.tup [.str "place", w1])
  exact q _ _ (.place C qs) (s1.trans q2) (jD ab (R1.mono q2)) (vp lp ld e1 C1 t1) rfl
 | row c ps j =>
  obtain ⟨l1, u, rfl, Rl, Ru⟩ := hv
  have ld : Ld fn c ps := kA.1
  have jn : j.size <= n := by have : j.size + 1 <= n + 1 := kn; omega
  refine bm (fun h => absurd (of_decide_eq_true h) (wne (Ne.symm kS))) (fun _ => ?_)
  refine ⟨_, rfl, b, _, 0, .str "row", rfl, rfl, SqT.of hb, ah (j := 0) rfl, rfl, _, rfl, bm (fun h => absurd (of_decide_eq_true h) (wne lr)) (fun _ => ?_)⟩
  refine ⟨_, rfl, b, _, 0, .str "row", rfl, rfl, SqT.of hb, ah (j := 0) rfl, rfl, _, rfl, bm (fun h => absurd (of_decide_eq_true h) (wne (Ne.symm nJ))) (fun _ => ?_)⟩
  refine ⟨_, rfl, b, _, 1, l1, rfl, rfl, SqT.of hb, ah (j := 1) rfl, _, rfl, l1, d, c, ps, en, rfl, Rl, ld.can, by have := ld.len; omega, fun p hp => by have := (ld.le p hp).1; omega, lp.at_, lp.ok, fun H1 w1 C qs s1 R1 C1 e1 t1 => ?_⟩
  refine ⟨_, rfl, b, _, 2, u, rfl, rfl, SqT.of (s1 _ _ hb), ah (j := 2) rfl, _, rfl, u, d, j, en, rfl, Ru.mono s1, jn, kA.2, lp.m s1, fun H2 w2 j' s2 R2 a2 z2' => ⟨z3, fun p hp => ?_⟩⟩
  have q3 := ac hp (.tup [.str "row", w1, w2])
  exact q _ _ (.row C qs j') (s1.trans (s2.trans q3)) (ko ab ((R1.mono s2).mono q3) (R2.mono q3)) ⟨vp lp ld e1 C1 t1, a2⟩ (by show j'.size + 1 = j.size + 1; omega)
 | pair i j =>
  obtain ⟨u, w', rfl, Ru, Rw⟩ := hv
  have ks : i.size + j.size + 1 <= n + 1 := kn
  refine bm (fun h => absurd (of_decide_eq_true h) (wne (Ne.symm qE))) (fun _ => ?_)
  refine ⟨_, rfl, b, _, 0, .str "pair", rfl, rfl, SqT.of hb, ah (j := 0) rfl, rfl, _, rfl, bm (fun _ => ?_) (fun h => absurd (decide_eq_true rfl) h)⟩
  refine ⟨_, rfl, b, _, 1, u, rfl, rfl, SqT.of hb, ah (j := 1) rfl, _, rfl, u, d, i, en, rfl, Ru, by omega, kA.1, lp, fun H1 w1 i' s1 R1 a1 z1' => ?_⟩
  refine ⟨_, rfl, b, _, 2, w', rfl, rfl, SqT.of (s1 _ _ hb), ah (j := 2) rfl, _, rfl, w', d, j, en, rfl, Rw.mono s1, by omega, kA.2, lp.m s1, fun H2 w2 j' s2 R2 a2 z2' => ⟨z3, fun p hp => ?_⟩⟩
  have q3 := ac hp (.tup [.str "pair", w1, w2])
  exact q _ _ (.pair i' j') (s1.trans (s2.trans q3)) (mJ ab ((R1.mono s2).mono q3) (R2.mono q3)) ⟨a1, a2⟩ (by show i'.size + j'.size + 1 = i.size + j.size + 1; omega)
end
abbrev dE : Stmt := top 32
section
variable {σ : St} {H : Hp} {ds : List Dv} {ta ti : TE} {d : Dv}
theorem nF {i : Int} (h : ∀ H1 (Q : VK), Q (.int i) H1 -> ta σ H1 Q) : fk ta σ H (.int i) := fun H1 _ Q q => h H1 Q (q H1 _ (ao.refl _) (by simp [Rep]))
theorem ul {K : PySem.W.Frag} {i : Int} {Q : VK} (h : fk ta σ H (.lst ds)) (hi : ∀ H1 (Q : VK), Q (.int i) H1 -> ti σ H1 Q) (h0 : 0 <= i) (h1 : i < (ds.length : Int)) (k : ∀ H' v d, ao H H' -> ds[i.toNat]? = some d -> Rep H' d v -> Q v H') : tOp (wz K) ta ti σ H Q :=
 h H (ao.refl H) _ fun H1 v s1 R => hi H1 _ (by
  rw [Rep] at R
  obtain ⟨a, xs, rfl, ha, rs⟩ := R
  have hl := rs.length
  have hlt : i.toNat < xs.length := by omega
  obtain ⟨d, hd, Rd⟩ := rs.get (List.getElem?_eq_getElem hlt)
  have hat := ah (List.getElem?_eq_getElem hlt)
  rw [show ((i.toNat : Nat) : Int) = i by omega] at hat
  exact ⟨a, xs, i, _, rfl, rfl, SqL.of ha, hat, k H1 _ d s1 hd Rd⟩)
theorem qi {K : PySem.W.Frag} {j : Nat} {v : V} (hv : σ[j]? = some (some v)) (R : Rep H (.tup ds) v) : fk (tSl (ud K) (dB j) (rY (tC (.int 1))) dQ) σ H (.tup (ds.drop 1)) := fun H1 s Q q => by
 obtain ⟨a, vs, rfl, ha, rv⟩ := Rep.tup_inv (R.mono s)
 have e : cE vs (some 1) none = vs.drop 1 := by
  cases vs with
  | nil => rfl
  | cons x vs => exact mx (x :: vs) 1 (by rw [List.length_cons]; omega)
 refine ⟨_, hv, 1, rfl, a, vs, rfl, SqT.of ha, fun e2 => ?_, fun p hp => ?_⟩
 ·rw [e] at e2
  refine q H1 _ (ao.refl _) ?_
  rw [Rep]
  exact ⟨a, vs, rfl, ha, by have := fh 1 rv; rwa [e2] at this⟩
 ·rw [e]
  have s2 := ac hp (.tup (vs.drop 1))
  refine q _ _ s2 ?_
  rw [Rep]
  exact ⟨p, _, rfl, ab, (fh 1 rv).mono s2⟩
end
theorem Ge.gd {un : List Str} {c : Int} {ps : List Pr} (h : Ge un c ps) : GdK un c ps := ⟨h.can, h.c0, by have := h.c1; show c <= 10 ^ 6; omega, fun q hq => ⟨by have := (h.le q hq).1; omega, (h.le q hq).2⟩⟩
theorem Ge.cnt {un : List Str} {c c' : Int} {ps : List Pr} (h : Ge un c ps) (h0 : 0 <= c') (h1 : c' <= c + 1) : GdK un c' ps := ⟨h.can, h0, by have := h.c1; show c' <= 10 ^ 6; omega, fun q hq => ⟨by have := (h.le q hq).1; omega, (h.le q hq).2⟩⟩
theorem cA {P Q : Int -> List Pr -> Prop} (h : ∀ c ps, P c ps -> Q c ps) : ∀ {k : Kd}, k.All P -> k.All Q
 | .whole, _ => trivial
 | .place _ _, x => h _ _ x
 | .row _ _ _, x => ⟨h _ _ x.1, cA h x.2⟩
 | .pair _ _, x => ⟨cA h x.1, cA h x.2⟩
theorem oj (un : List Str) {c : Int} (h0 : 0 <= c) (h1 : c <= 10 ^ 6) : GdK un c [] := ⟨⟨.nil, by simp⟩, h0, h1, fun q hq => nomatch hq⟩
theorem su {ps : List Pr} (C : aR ps) : aR (ps.drop 1) := pJ C (List.drop_sublist _ _)
theorem wf {un : List Str} {c : Int} {ps qs : List Pr} (g : Ge un c ps) (hq : Str.ofString "q" ∈ un) (C : aR qs) (h : ∀ x, tm qs x = tm ps x + tm [(Str.ofString "q", 1)] x) : GdK un (c + 0) qs := by
 refine ⟨C, by have := g.c0; show 0 <= c + 0; omega, by have := g.c1; show c + 0 <= 10 ^ 6; omega, fun q hm => ?_⟩
 have e := h q.1
 rw [bI (aD C.pw) hm] at e
 have g1 := C.ge q hm
 have t : tm [(Str.ofString "q", 1)] q.1 = if Str.ofString "q" = q.1 then 1 else 0 := rfl
 have b : tm ps q.1 <= 1000 /\ (tm ps q.1 ≠ 0 -> q.1 ∈ un) := by
  by_cases z : tm ps q.1 = 0
  ·rw [z]; exact ⟨by decide, fun h => absurd rfl h⟩
  ·obtain ⟨p, hp, e1⟩ := cS z
   rw [<- e1, bI (aD g.can.pw) hp]
   exact ⟨(g.le p hp).1, fun _ => (g.le p hp).2⟩
 rw [t] at e
 split at e
 ·next hx => exact ⟨by omega, hx ▸ hq⟩
 ·exact ⟨by omega, b.2 (by omega)⟩
theorem Ge.len {un : List Str} {c : Int} {ps : List Pr} (g : Ge un c ps) : ps.length <= un.length := by
 have := lE (aD g.can.pw) (ys := un) (fun x hx => by
  obtain ⟨p, hp, rfl⟩ := List.mem_map.mp hx
  exact (g.le p hp).2)
 rwa [List.length_map] at this
theorem iB {H : Hp} {l : Addr} {xs ys : List V} (h : H l = some (.lst xs)) : bG H (upd H l (.lst ys)) := fun b zs hb => by
 have : b ≠ l := fun e => by rw [e, h] at hb; cases hb
 simp only [upd, this, if_false]
 exact hb
def jE (c : Int) (ps : List Pr) : List (Int × List Pr) := [(c + 1, ps), (if c - 1 > 0 then c - 1 else 0, ps), (c, ps.drop 1), (c, []), (0, ps)]
theorem oF {K : PySem.W.Frag} {σ : St} {H : Hp} {c : Int} {ps : List Pr} {u : V} (h4 : σ[4]? = some (some (.int c))) (h5 : σ[5]? = some (some u)) (Rp : Rep H (.tup (aV ps)) u) :
  jL (bj (eP (bj (tOp (rI0 fun i j => V.int (i + j)) (dB 4) (tC (V.int 1))) (bj (dB 5) dz)))
   (bj (eP (bj (tCB (fun xs H Q => ∃ i j, xs = [V.int i, V.int j] /\ Q (V.int (if j > i then j else i)) H) (bj (tC (V.int 0)) (bj (tOp (rI0 fun i j => V.int (i - j)) (dB 4) (tC (V.int 1))) dz))) (bj (dB 5) dz)))
   (bj (eP (bj (dB 4) (bj (tSl (ud K) (dB 5) (rY (tC (V.int 1))) dQ) dz)))
   (bj (eP (bj (dB 4) (bj (eP dz) dz)))
   (bj (eP (bj (tC (V.int 0)) (bj (dB 5) dz))) dz))))) σ H ((jE c ps).map fun p => aN p.1 p.2) := by
 have e : (jE c ps).map (fun p => aN p.1 p.2) = [.tup [.int (c + 1), .tup (aV ps)], .tup [.int (if c - 1 > 0 then c - 1 else 0), .tup (aV ps)], .tup [.int c, .tup ((aV ps).drop 1)], .tup [.int c, .tup []], .tup [.int 0, .tup (aV ps)]] := by simp [jE, aN, aV, List.map_drop]
 rw [e]
 have d1 : fk (tOp (rI0 fun i j => V.int (i + j)) (dB 4) (tC (V.int 1))) σ H (.int (c + 1)) := nF fun H1 Q q => ⟨_, h4, _, _, rfl, rfl, q⟩
 have d2 : fk (tCB (fun xs H Q => ∃ i j, xs = [V.int i, V.int j] /\ Q (V.int (if j > i then j else i)) H) (bj (tC (V.int 0)) (bj (tOp (rI0 fun i j => V.int (i - j)) (dB 4) (tC (V.int 1))) dz))) σ H (.int (if c - 1 > 0 then c - 1 else 0)) := nF fun H1 Q q => ⟨_, h4, _, _, rfl, rfl, _, _, rfl, q⟩
 have d3 : fk (dB 4) σ H (.int c) := nF fun H1 Q q => ⟨_, h4, q⟩
 have d4 : fk (dB 5) σ H (.tup (aV ps)) := ji h5 Rp
 have two : ∀ {ta tb : TE} {a b : Dv}, fk ta σ H a -> fk tb σ H b -> fk (eP (bj ta (bj tb dz))) σ H (.tup [a, b]) := fun x y => bD (aJ x (aJ y bp)) (Nat.le_of_ble_eq_true rfl)
 exact aJ (two d1 d4) (aJ (two d2 d4) (aJ (two d3 (qi h5 Rp)) (aJ (two d3 (bD bp (Nat.le_of_ble_eq_true rfl))) (aJ (two eE d4) bp))))
theorem uj {te : TE} {g : TG} {u : TS} {D : fq} {σ : St} {H : Hp} (h : te σ H fun x H1 => g x σ H1 (u D)) : vc (ut te g) u D σ H := h
theorem gh {K : PySem.W.Frag} {H : Hp} {b : Addr} {vs : List V} {ds : List Dv} {lo hi : Option Int} {Q : VK} (n m : Nat) (ha : H b = some (.tup vs)) (rv : Reps H ds vs) (e : cE vs lo hi = (vs.drop n).take m) (k : ∀ H' p ws, ao H H' -> H' p = some (.tup ws) -> Reps H' ((ds.drop n).take m) ws -> Q (.ref p) H') : ud K (.ref b) lo hi H Q := by
 have r1 : Reps H ((ds.drop n).take m) (cE vs lo hi) := by rw [e]; exact jB m (fh n rv)
 refine ⟨b, vs, rfl, SqT.of ha, fun e2 => k H b vs (ao.refl _) ha (by rwa [e2] at r1), fun p hp => ?_⟩
 have s2 := ac hp (.tup (cE vs lo hi))
 exact k _ p _ s2 ab (r1.mono s2)
theorem Kd.tl3 {H : Hp} {un : List Str} {k : Kd} {vs : List V} (h1 : k.word ≠ Str.ofString "pair") (h2 : k.word ≠ Str.ofString "whole") (g : k.All (Ge un)) {b : Addr} (R0 : Rep H k.dv (.ref b)) (hb : H b = some (.tup (.str k.word :: vs))) :
  ∃ (c : Int) (ps : List Pr) (l : V) (ws : List V) (dt : List Dv) (mk : Int -> List Pr -> Kd), vs = l :: ws /\ Rep H (aN c ps) l /\ (∀ H', bG H H' -> Reps H' dt ws) /\ ws.length <= 1 /\ (∀ c ps, (mk c ps).dv = .tup (.str k.word :: aN c ps :: dt)) /\ Ge un c ps /\ (∀ c' ps', GdK un c' ps' -> (mk c' ps').All (GdK un)) /\ ∀ c' ps', (mk c' ps').size = k.size := by
 obtain ⟨b', vs', e, hb', hv⟩ := Kd.inv R0
 cases e
 rw [hb] at hb'
 cases hb'
 cases k with
 | whole => exact absurd rfl h2
 | pair i j => exact absurd rfl h1
 | place c ps =>
  obtain ⟨l, rfl, R⟩ := hv
  exact ⟨c, ps, l, [], [], fun c ps => .place c ps, rfl, R, fun _ _ => by simp only [Reps], by decide, fun _ _ => rfl, g, fun _ _ h => h, fun _ _ => rfl⟩
 | row c ps j =>
  obtain ⟨l, u, rfl, R, Ru⟩ := hv
  exact ⟨c, ps, l, [u], [j.dv], fun c ps => .row c ps j, rfl, R, fun _ t => bb (Kd.tupS t Ru), Nat.le_refl 1, fun _ _ => rfl, g.1, fun _ _ h => ⟨h, cA (fun c ps h => Ge.gd h) g.2⟩, fun _ _ => rfl⟩
def eG (un : List Str) (n : Nat) : Sp := fun vs H Q _ => ∃ (v : V) (c : Int) (k : Kd), vs = [v, .int c] /\ Rep H k.dv v /\ k.size <= n /\ k.All (Ge un) /\ ∀ (H' : Hp) (w : V) (k' : Kd), ao H H' -> Rep H' k'.dv w -> k'.All (GdK un) -> k'.size <= 2 * k.size + 3 -> Q w H'
theorem sL {un : List Str} {c : Int} {ps : List Pr} (g : Ge un c ps) : ∀ p ∈ jE c ps, GdK un p.1 p.2 := fun p hp => by
 have c0 := g.c0
 have c1 := g.c1
 unfold jE at hp
 rcases List.mem_cons.mp hp with rfl | hp
 ·exact g.cnt (by omega) (by omega)
 rcases List.mem_cons.mp hp with rfl | hp
 ·refine g.cnt ?_ ?_ <;> show _ <= _ <;> split <;> omega
 rcases List.mem_cons.mp hp with rfl | hp
 ·exact ⟨su g.can, c0, by show c <= 10 ^ 6; omega, fun q hq => by have := g.le q (List.mem_of_mem_drop hq); exact ⟨by omega, this.2⟩⟩
 rcases List.mem_cons.mp hp with rfl | hp
 ·exact oj un c0 (by omega)
 ·rw [List.mem_singleton.mp hp]; exact g.cnt (Int.le_refl _) (by omega)
section
variable {P : Program} {w : World} {K : PySem.W.Frag} {mg : Str -> Option Value} {base : Heap}
theorem jM : aW ["_law_kind_here", "_law_cell", "_law_mixed_here", "_law_at", "_law_count", "_law_parts", "_law_lengths"] ["_law_kind_here", "_law_cell"] (aj dE) := ⟨rfl, rfl, rfl, by decide +kernel, rfl, by decide +kernel, by decide +kernel⟩
theorem qa {f : Addr} {fd : FuncData} {k0 n : Nat} {un : List Str} (F : Fun K "_law_spoilt" "_law_spoilt" dE f fd) (T : Txt K mg) (hq : Str.ofString "q" ∈ un) (u6 : un.length <= 6) (D_law_mixed : Def P w K mg base k0 "_law_mixed" ["_law_cell", "_law_k"] dY) (D_law_sum : Def P w K mg base k0 "_law_sum" ["_law_a", "_law_b"] mF) (D_law_spoilt : Def P w K mg base k0 "_law_spoilt" ["_law_kind_here", "_law_cell"] (eG un n)) : br P w K mg base CX0 (k0 + 1) f fd ["_law_kind_here", "_law_cell"] (eG un (n + 1)) := by
 have nd : (["_law_kind_here", "_law_cell", "_law_mixed_here", "_law_at", "_law_count", "_law_parts", "_law_lengths"] : List Str).Nodup := jM.nd
 refine F.ok jM (fun vs H Q E h => ?_) (fun cdv A outer s H vs Q E hr h => ?_)
 ·obtain ⟨v, c, k, rfl, _⟩ := h
  rfl
 obtain ⟨v, cl, k, rfl, R, kn, kA, q⟩ := h
 refine ⟨_, (@ag _ _ _ _ _ (@aM _ _ (2) _ _ _ _ nd rfl (Or.inl rfl) (@aI _ _ _ _ _ _ _ _ _ _ D_law_mixed hr rfl (@aa _ _ _ _ _ (@pv _ 1 _ _ (by rfl) (by trivial) (by decide) (by decide)) (@aa _ _ _ _ _ (@ad _ _ _ _) (@ae _) (by rfl)) (by rfl)) (by decide) (by rfl) (by rfl)) (by rfl) (by trivial)) (@ag _ _ _ _ _ (@bi _ _ _ _ _ _ _ _ (@aB _ _ _ _ _ _ _ _ bH (@ar _ _ _ _ _ _ _ ap (@pv _ 0 _ _ (by rfl) (by trivial) (by decide) (by decide)) (@ad _ _ _ _) (fun _ _ => rfl)) (@aY _ _ _ _) (aO _)) (@ag _ _ _ _ _ (@aM _ _ (3) _ _ _ _ nd rfl (Or.inl rfl) (@au _ _ _ _ _ _ _ _ bw (@ad _ _ _ _) (@au _ _ _ _ _ _ _ _ bh (@pv _ 2 _ _ (by rfl) (by trivial) (by decide) (by decide)) (@ad _ _ _ _))) (by rfl) (by trivial)) (@ak _ _ _ (@aE _ _ _ _ (@au _ _ _ _ _ _ _ _ ir (@au _ _ _ _ _ _ _ _ ir (@bY _ _ _ _ _ _ _ _ _ _ ic (@pv _ 0 _ _ (by rfl) (by trivial) (by decide) (by decide)) (@dh _) (@bM _ _ _ (@pv _ 3 _ _ (by rfl) (by trivial) (by decide) (by decide)))) (@av _ _ _ _ _ (@aa _ _ _ _ _ (@aI _ _ _ _ _ _ _ _ _ _ D_law_spoilt hr rfl (@aa _ _ _ _ _ (@ar _ _ _ _ _ _ _ ap (@pv _ 0 _ _ (by rfl) (by trivial) (by decide) (by decide)) (@pv _ 3 _ _ (by rfl) (by trivial) (by decide) (by decide)) (fun _ _ => rfl)) (@aa _ _ _ _ _ (@au _ _ _ _ _ _ _ _ bv (@pv _ 1 _ _ (by rfl) (by trivial) (by decide) (by decide)) (@ad _ _ _ _)) (@ae _) (by rfl)) (by rfl)) (by decide) (by rfl) (by rfl)) (@ae _) (by rfl)))) (@bY _ _ _ _ _ _ _ _ _ _ ic (@pv _ 0 _ _ (by rfl) (by trivial) (by decide) (by decide)) (@bM _ _ _ (@au _ _ _ _ _ _ _ _ bw (@pv _ 3 _ _ (by rfl) (by trivial) (by decide) (by decide)) (@ad _ _ _ _))) (@dh _)))))) (@aS _)) (@ag _ _ _ _ _ (@bi _ _ _ _ _ _ _ _ (@PW.pt _ _ _ (@gq _ _ _ _ _ _ _ (@aB _ _ _ _ _ _ _ _ bH (@ar _ _ _ _ _ _ _ ap (@pv _ 0 _ _ (by rfl) (by trivial) (by decide) (by decide)) (@ad _ _ _ _) (fun _ _ => rfl)) (@aY _ _ _ _) (aO _)) (@fg _ _ _ _ (@aB _ _ _ _ _ _ _ _ bH (@au _ _ _ _ _ _ _ _ bh (@pv _ 2 _ _ (by rfl) (by trivial) (by decide) (by decide)) (@ad _ _ _ _)) (@ad _ _ _ _) (aO _))))) (@ak _ _ _ (@aE _ _ _ _ (@av _ _ _ _ _ (@aa _ _ _ _ _ (@aY _ _ _ _) (@aa _ _ _ _ _ (@ar _ _ _ _ _ _ _ ap (@pv _ 0 _ _ (by rfl) (by trivial) (by decide) (by decide)) (@ad _ _ _ _) (fun _ _ => rfl)) (@aa _ _ _ _ _ (@aI _ _ _ _ _ _ _ _ _ _ D_law_spoilt hr rfl (@aa _ _ _ _ _ (@ar _ _ _ _ _ _ _ ap (@pv _ 0 _ _ (by rfl) (by trivial) (by decide) (by decide)) (@ad _ _ _ _) (fun _ _ => rfl)) (@aa _ _ _ _ _ (@au _ _ _ _ _ _ _ _ bv (@pv _ 1 _ _ (by rfl) (by trivial) (by decide) (by decide)) (@ad _ _ _ _)) (@ae _) (by rfl)) (by rfl)) (by decide) (by rfl) (by rfl)) (@ae _) (by rfl)) (by rfl)) (by rfl))))) (@aS _)) (@ag _ _ _ _ _ (@bi _ _ _ _ _ _ _ _ (@PW.pt _ _ _ (@oU _ _ _ _ _ _ _ (@aB _ _ _ _ _ _ _ _ bH (@ar _ _ _ _ _ _ _ ap (@pv _ 0 _ _ (by rfl) (by trivial) (by decide) (by decide)) (@ad _ _ _ _) (fun _ _ => rfl)) (@aY _ _ _ _) (aO _)) (@kZ _ _ _ _ (@aB _ _ _ _ _ _ _ _ bH (@au _ _ _ _ _ _ _ _ bh (@pv _ 2 _ _ (by rfl) (by trivial) (by decide) (by decide)) (@ad _ _ _ _)) (@ad _ _ _ _) (aO _))))) (@ak _ _ _ (@aE _ _ _ _ (@ar _ _ _ _ _ _ _ bJ (@bC _ _ _ _ (@aa _ _ _ _ _ (@av _ _ _ _ _ (@aa _ _ _ _ _ (@aY _ _ _ _) (@aa _ _ _ _ _ (@pv _ 0 _ _ (by rfl) (by trivial) (by decide) (by decide)) (@aa _ _ _ _ _ (@pv _ 0 _ _ (by rfl) (by trivial) (by decide) (by decide)) (@ae _) (by rfl)) (by rfl)) (by rfl))) (@aa _ _ _ _ _ (@av _ _ _ _ _ (@aa _ _ _ _ _ (@aY _ _ _ _) (@aa _ _ _ _ _ (@av _ _ _ _ _ (@aa _ _ _ _ _ (@ad _ _ _ _) (@aa _ _ _ _ _ (@av _ _ _ _ _ (@ae _)) (@ae _) (by rfl)) (by rfl))) (@ae _) (by rfl)) (by rfl))) (@aa _ _ _ _ _ (@av _ _ _ _ _ (@aa _ _ _ _ _ (@aY _ _ _ _) (@aa _ _ _ _ _ (@av _ _ _ _ _ (@aa _ _ _ _ _ (@ad _ _ _ _) (@aa _ _ _ _ _ (@av _ _ _ _ _ (@ae _)) (@ae _) (by rfl)) (by rfl))) (@aa _ _ _ _ _ (@av _ _ _ _ _ (@aa _ _ _ _ _ (@aY _ _ _ _) (@ae _) (by rfl))) (@ae _) (by rfl)) (by rfl)) (by rfl))) (@ae _) (by rfl)) (by rfl)) (by rfl))) (@au _ _ _ _ _ _ _ _ bh (@au _ _ _ _ _ _ _ _ bv (@pv _ 2 _ _ (by rfl) (by trivial) (by decide) (by decide)) (@ad _ _ _ _)) (@ad _ _ _ _)) (fun _ _ => rfl)))) (@aS _)) (@ag _ _ _ _ _ (@rB _ _ _ _ _ _ (@ar _ _ _ _ _ _ _ ap (@pv _ 0 _ _ (by rfl) (by trivial) (by decide) (by decide)) (@ad _ _ _ _) (fun _ _ => rfl)) (@bT _ _ _ _ _ _ rfl (@aQ _ _ _ _ _ (@aG _ _ (4) _ nd rfl (Or.inl rfl) (by trivial)) (@aQ _ _ _ _ _ (@aG _ _ (5) _ nd rfl (Or.inl rfl) (by trivial)) (@bA _) (by rfl)) (by rfl)) (by rfl) (by rfl)) (by rfl) (by rfl) (by rfl)) (@ag _ _ _ _ _ (@aM _ _ (6) _ _ _ _ nd rfl (Or.inl rfl) (@bC _ _ _ _ (@aa _ _ _ _ _ (@av _ _ _ _ _ (@aa _ _ _ _ _ (@au _ _ _ _ _ _ _ _ bw (@pv _ 4 _ _ (by rfl) (by trivial) (by decide) (by decide)) (@ad _ _ _ _)) (@aa _ _ _ _ _ (@pv _ 5 _ _ (by rfl) (by trivial) (by decide) (by decide)) (@ae _) (by rfl)) (by rfl))) (@aa _ _ _ _ _ (@av _ _ _ _ _ (@aa _ _ _ _ _ (@bt _ _ _ _ _ _ _ _ _ (jS rfl) rfl T.max (by decide +kernel) (@aa _ _ _ _ _ (@ad _ _ _ _) (@aa _ _ _ _ _ (@au _ _ _ _ _ _ _ _ dA (@pv _ 4 _ _ (by rfl) (by trivial) (by decide) (by decide)) (@ad _ _ _ _)) (@ae _) (by rfl)) (by rfl)) (by decide) (by decide) (by rfl) (by rfl)) (@aa _ _ _ _ _ (@pv _ 5 _ _ (by rfl) (by trivial) (by decide) (by decide)) (@ae _) (by rfl)) (by rfl))) (@aa _ _ _ _ _ (@av _ _ _ _ _ (@aa _ _ _ _ _ (@pv _ 4 _ _ (by rfl) (by trivial) (by decide) (by decide)) (@aa _ _ _ _ _ (@bY _ _ _ _ _ _ _ _ _ _ ic (@pv _ 5 _ _ (by rfl) (by trivial) (by decide) (by decide)) (@bM _ _ _ (@ad _ _ _ _)) (@dh _)) (@ae _) (by rfl)) (by rfl))) (@aa _ _ _ _ _ (@av _ _ _ _ _ (@aa _ _ _ _ _ (@pv _ 4 _ _ (by rfl) (by trivial) (by decide) (by decide)) (@aa _ _ _ _ _ (@av _ _ _ _ _ (@ae _)) (@ae _) (by rfl)) (by rfl))) (@aa _ _ _ _ _ (@av _ _ _ _ _ (@aa _ _ _ _ _ (@ad _ _ _ _) (@aa _ _ _ _ _ (@pv _ 5 _ _ (by rfl) (by trivial) (by decide) (by decide)) (@ae _) (by rfl)) (by rfl))) (@ae _) (by rfl)) (by rfl)) (by rfl)) (by rfl)) (by rfl))) (by rfl) (by trivial)) (@ag _ _ _ _ _ (@fZ _ _ _ _ (@mB _ _ _ _ _ _ _ _ _ _ _ _ PySem.F.plainAttrs_list PySem.F.slot_list_append PySem.F.type_list_append ff (@pv _ 6 _ _ (by rfl) (by trivial) (by decide) (by decide)) (@aa _ _ _ _ _ (@aI _ _ _ _ _ _ _ _ _ _ D_law_sum hr rfl (@aa _ _ _ _ _ (@ar _ _ _ _ _ _ _ ap (@pv _ 0 _ _ (by rfl) (by trivial) (by decide) (by decide)) (@ad _ _ _ _) (fun _ _ => rfl)) (@aa _ _ _ _ _ (@av _ _ _ _ _ (@aa _ _ _ _ _ (@ad _ _ _ _) (@aa _ _ _ _ _ (@av _ _ _ _ _ (@aa _ _ _ _ _ (@av _ _ _ _ _ (@aa _ _ _ _ _ (@aY _ _ _ _) (@aa _ _ _ _ _ (@ad _ _ _ _) (@ae _) (by rfl)) (by rfl))) (@ae _) (by rfl))) (@ae _) (by rfl)) (by rfl))) (@ae _) (by rfl)) (by rfl)) (by decide) (by rfl) (by rfl)) (@ae _) (by rfl)) (by rfl) (by rfl) (by rfl) (by rfl) (by rfl)) (by rfl)) (@ak _ _ _ (@aE _ _ _ _ (@au _ _ _ _ _ _ _ _ ir (@av _ _ _ _ _ (@aa _ _ _ _ _ (@ar _ _ _ _ _ _ _ ap (@pv _ 0 _ _ (by rfl) (by trivial) (by decide) (by decide)) (@ad _ _ _ _) (fun _ _ => rfl)) (@aa _ _ _ _ _ (@ar _ _ _ _ _ _ _ bJ (@pv _ 6 _ _ (by rfl) (by trivial) (by decide) (by decide)) (@au _ _ _ _ _ _ _ _ bh (@au _ _ _ _ _ _ _ _ bv (@pv _ 2 _ _ (by rfl) (by trivial) (by decide) (by decide)) (@ad _ _ _ _)) (@ad _ _ _ _)) (fun _ _ => rfl)) (@ae _) (by rfl)) (by rfl))) (@bY _ _ _ _ _ _ _ _ _ _ ic (@pv _ 0 _ _ (by rfl) (by trivial) (by decide) (by decide)) (@bM _ _ _ (@ad _ _ _ _)) (@dh _)))))))))))), ?_⟩
 obtain ⟨b, vs, rfl, hb, hv⟩ := Kd.inv R
 refine ⟨_, rfl, cl, 11, rfl, fun x x0 => ?_⟩
 refine gnm ?_
 dsimp only
 have kp := k.size_pos
 have other : ∀ (H1 : Hp) (σ : St), ao H H1 -> σ[0]? = some (some (.ref b)) -> σ[2]? = some (some (.int x)) -> ∀ {K' : PySem.W.Frag}, tOp (wz K') (wv (bj (eP (bj (tC (.str "pair")) (bj (dB 0) (bj (dB 0) dz)))) (bj (eP (bj (tC (.str "place")) (bj (eP (bj (tC (.int 3)) (bj (eP dz) dz))) dz))) (bj (eP (bj (tC (.str "row")) (bj (eP (bj (tC (.int 2)) (bj (eP dz) dz))) (bj (eP (bj (tC (.str "whole")) dz)) dz)))) dz)))) (tOp (rI (fun _ j => 0 < j) fun i j => .int (i % j)) (tOp (rI xb fun i j => .int (i / j)) (dB 2) (tC (.int 9))) (tC (.int 3))) σ H1 Q := fun H1 σ s1 h0 h2 K' => by
  obtain ⟨g0, g1⟩ := mod_lt (a := x / 9) 3 (by decide)
  refine ul (ds := [(Kd.pair k k).dv, (Kd.place 3 []).dv, (Kd.row 2 [] .whole).dv]) (i := x / 9 % 3) (tH (aJ (bD (aJ eM (aJ (ji h0 (R.mono s1)) (aJ (ji h0 (R.mono s1)) bp))) (Nat.le_of_ble_eq_true rfl)) (aJ (bD (aJ eM (aJ (bD (aJ eE (aJ (bD bp (Nat.le_of_ble_eq_true rfl)) bp)) (Nat.le_of_ble_eq_true rfl)) bp)) (Nat.le_of_ble_eq_true rfl)) (aJ (bD (aJ eM (aJ (bD (aJ eE (aJ (bD bp (Nat.le_of_ble_eq_true rfl)) bp)) (Nat.le_of_ble_eq_true rfl)) (aJ (bD (aJ eM bp) (Nat.le_of_ble_eq_true rfl)) bp))) (Nat.le_of_ble_eq_true rfl)) bp))) (Nat.le_of_ble_eq_true rfl)) (fun H1 Q q => ⟨_, h2, _, _, rfl, rfl, ⟨by decide, by decide⟩, _, _, rfl, rfl, (by show (0 : Int) < 3; decide), q⟩) g0 g1 fun H2 v d s2 hd Rd => ?_
  have gA : k.All (GdK un) := cA (fun c ps h => Ge.gd h) kA
  rcases (by omega : x / 9 % 3 = 0 \/ x / 9 % 3 = 1 \/ x / 9 % 3 = 2) with e | e | e <;> rw [e] at hd
  ·cases hd; exact q H2 v (.pair k k) (s1.trans s2) Rd ⟨gA, gA⟩ (by show k.size + k.size + 1 <= _; omega)
  ·cases hd; exact q H2 v (.place 3 []) (s1.trans s2) Rd (oj un (by decide) (by decide)) (by show 1 <= _; omega)
  ·cases hd; exact q H2 v (.row 2 [] .whole) (s1.trans s2) Rd ⟨oj un (by decide) (by decide), trivial⟩ (by show 2 <= _; omega)
 refine ⟨_, rfl, b, _, 0, .str k.word, rfl, rfl, SqT.of hb, ah (j := 0) rfl, rfl, _, rfl, ?_⟩
 refine bm (fun hw => ?_) (fun hw => ?_)
 ·have hw := V.str.inj (of_decide_eq_true hw)
  cases k with
  | whole => exact absurd hw qE
  | place c ps => exact absurd hw kE
  | row c ps i => exact absurd hw lr
  | pair i j =>
   obtain ⟨u1, u2, rfl, Ru1, Ru2⟩ := hv
   have kn' : i.size + j.size + 1 <= n + 1 := kn
   have gi : i.All (GdK un) := cA (fun c ps h => Ge.gd h) kA.1
   have gj : j.All (GdK un) := cA (fun c ps h => Ge.gd h) kA.2
   obtain ⟨g0, g1⟩ := mod_lt (a := x) 2 (by decide)
   have rv : Reps H [.str "pair", i.dv, j.dv] [.str "pair", u1, u2] := by simp only [Reps]; exact ⟨_, _, rfl, by simp only [Rep], _, _, rfl, Ru1, _, _, rfl, Ru2, rfl⟩
   refine ⟨_, rfl, _, _, rfl, rfl, (by show (0 : Int) < 2; decide), _, _, rfl, rfl, ?_⟩
   refine gnm ?_
   dsimp only
   rcases (by omega : 1 + x % 2 = 1 \/ 1 + x % 2 = 2) with e | e <;> rw [e]
   ·refine ⟨_, rfl, _, rfl, 1, rfl, gh 0 1 hb rv rfl fun H1 p1 w1 s1 h1 r1 => ?_⟩
    refine ⟨_, rfl, _, rfl, b, _, 1, u1, rfl, rfl, SqT.of (s1 _ _ hb), ah (j := 1) rfl, _, rfl, _, _, rfl, rfl, ⟨by decide, by decide⟩, u1, cl / 2, i, rfl, Ru1.mono s1, by omega, kA.1, fun H2 w2 k' s2 R2 g2 le2 => ⟨z1, fun p3 hp3 => ?_⟩⟩
    have s3 := ac hp3 (.tup [w2])
    have s13 := s2.trans s3
    refine gb (s13 _ _ h1) ab (r1.mono s13) (bb (R2.mono s3)) (by rw [r1.length]; exact Nat.le_of_ble_eq_true rfl) fun H4 x4 xs4 s4 h4 r4 => ?_
    have s04 := s1.trans (s13.trans s4)
    refine ⟨_, rfl, _, rfl, _, _, rfl, rfl, _, rfl, ?_⟩
    dsimp only [dQ]
    refine gh 2 3 (s04 _ _ hb) (rv.mono s04) rfl fun H5 p5 w5 s5 h5 r5 => ?_
    refine gb (s5 _ _ h4) h5 (r4.mono s5) r5 (by rw [r4.length, r5.length]; exact Nat.le_of_ble_eq_true rfl) fun H6 x6 xs6 s6 h6 r6 => ?_
    exact q H6 _ (.pair k' j) (s04.trans (s5.trans s6)) (by rw [Kd.dv, Rep]; exact ⟨x6, xs6, rfl, h6, r6⟩) ⟨g2, gj⟩ (by show k'.size + j.size + 1 <= 2 * (i.size + j.size + 1) + 3; omega)
   ·refine ⟨_, rfl, _, rfl, 2, rfl, gh 0 2 hb rv rfl fun H1 p1 w1 s1 h1 r1 => ?_⟩
    refine ⟨_, rfl, _, rfl, b, _, 2, u2, rfl, rfl, SqT.of (s1 _ _ hb), ah (j := 2) rfl, _, rfl, _, _, rfl, rfl, ⟨by decide, by decide⟩, u2, cl / 2, j, rfl, Ru2.mono s1, by omega, kA.2, fun H2 w2 k' s2 R2 g2 le2 => ⟨z1, fun p3 hp3 => ?_⟩⟩
    have s3 := ac hp3 (.tup [w2])
    have s13 := s2.trans s3
    refine gb (s13 _ _ h1) ab (r1.mono s13) (bb (R2.mono s3)) (by rw [r1.length]; exact Nat.le_of_ble_eq_true rfl) fun H4 x4 xs4 s4 h4 r4 => ?_
    have s04 := s1.trans (s13.trans s4)
    refine ⟨_, rfl, _, rfl, _, _, rfl, rfl, _, rfl, ?_⟩
    dsimp only [dQ]
    refine gh 3 3 (s04 _ _ hb) (rv.mono s04) rfl fun H5 p5 w5 s5 h5 r5 => ?_
    refine gb (s5 _ _ h4) h5 (r4.mono s5) r5 (by rw [r4.length, r5.length]; exact Nat.le_of_ble_eq_true rfl) fun H6 x6 xs6 s6 h6 r6 => ?_
    exact q H6 _ (.pair i k') (s04.trans (s5.trans s6)) (by rw [Kd.dv, Rep]; exact ⟨x6, xs6, rfl, h6, r6⟩) ⟨gi, g2⟩ (by show i.size + k'.size + 1 <= 2 * (i.size + j.size + 1) + 3; omega)
 have nq : k.word ≠ Str.ofString "pair" := fun h => hw (decide_eq_true (by rw [h]))
 refine tnx ?_
 dsimp only
 refine iq (k.word = Str.ofString "row") ?B1 ?B0 (fun qT qF => ⟨_, rfl, b, _, 0, .str k.word, rfl, rfl, SqT.of hb, ah (j := 0) rfl, rfl, _, rfl, bm (fun w1 => ⟨_, rfl, _, _, rfl, rfl, (by show (0 : Int) < 3; decide), rfl, _, rfl, bm (fun _ => ifT (qT (V.str.inj (of_decide_eq_true w1)))) (fun _ => ifF qF)⟩) (fun _ => qF)⟩)
 case B1 =>
  intro hw
  refine bR ?_
  cases k with
  | whole => exact absurd hw kS
  | place c ps => exact absurd hw nJ
  | pair i j => exact absurd rfl nq
  | row c ps i =>
   obtain ⟨l, u1, rfl, Rl, Ru1⟩ := hv
   refine ⟨_, rfl, b, _, 1, l, rfl, rfl, SqT.of hb, ah (j := 1) rfl, _, rfl, b, _, 2, u1, rfl, rfl, SqT.of hb, ah (j := 2) rfl, _, rfl, _, _, rfl, rfl, ⟨by decide, by decide⟩, u1, cl / 3, i, rfl, Ru1, by (have : i.size + 1 <= n + 1 := kn); omega, kA.2, fun H3 x3 k' s3 R3 g3 le3 => ⟨z3, fun p hp => ?_⟩⟩
   have q3 := ac hp (.tup [.str "row", l, x3])
   exact q _ _ (.row c ps k') (s3.trans q3) (ko ab (Rl.mono (s3.trans q3)) (R3.mono q3)) ⟨kA.1.gd, g3⟩ (by show k'.size + 1 <= 2 * (i.size + 1) + 3; omega)
 case B0 =>
  refine cr (tnx ?_)
  dsimp only
  refine ⟨_, rfl, b, _, 0, .str k.word, rfl, rfl, SqT.of hb, ah (j := 0) rfl, rfl, _, rfl, bm (fun _ => bR (other H _ (ao.refl _) rfl rfl)) (fun nw => ?_)⟩
  have nw : k.word ≠ Str.ofString "whole" := fun h => nw (decide_eq_true (by rw [h]))
  refine ⟨_, rfl, _, _, rfl, rfl, (by show (0 : Int) < 9; decide), rfl, _, rfl, bm (fun _ => other H _ (ao.refl _) rfl rfl) (fun _ => tnx ?_)⟩
  dsimp only
  obtain ⟨c, ps, l, ws, dt, mk, evs, Rl, Rt, lt, emk, g, gmk, smk⟩ := Kd.tl3 nq nw kA R hb
  clear hv
  subst evs
  obtain ⟨a1, b1, us, rfl, ha1, hb1, ru, lu⟩ := bn Rl
  have Rp : Rep H (.tup (aV ps)) (.ref b1) := by rw [Rep]; exact ⟨b1, us, rfl, hb1, ru⟩
  refine ⟨_, rfl, b, _, 1, .ref a1, rfl, rfl, SqT.of hb, ah (j := 1) rfl, a1, _, rfl, SqT.of ha1, rfl, _, _, rfl, _, _, rfl, rfl, ?_⟩
  dsimp only
  refine uj ?_
  refine oF (c := c) (ps := ps) rfl rfl Rp H (ao.refl _) _ fun H0 xs s0 rx => ⟨by rw [rx.length]; exact (show 5 <= sizeLine by rw [sizeLine_eq]; decide), fun L hL0 => ?_⟩
  have hL : upd H0 L (.lst xs) L = some (.lst xs) := ab
  have n0 := ac hL0 (.lst xs)
  have s1 := s0.trans n0
  have rx := rx.mono n0
  generalize hH1 : upd H0 L (.lst xs) = H1 at hL s1 rx n0 ⊢
  refine gnm ?_
  have hb1' := s1 _ _ hb
  refine ⟨_, rfl, .inl ⟨rfl, _, SqL.of hL⟩, _, rfl, b, _, 1, .ref a1, rfl, rfl, SqT.of hb1', ah (j := 1) rfl, ?_⟩
  refine bD (H := H1) (ds := [.int 0, .tup [.tup [.str "q", .int 1]]]) (aJ eE (aJ (bD (aJ (bD (aJ eM (aJ eE bp)) (Nat.le_of_ble_eq_true rfl)) bp) (Nat.le_of_ble_eq_true rfl)) bp)) (Nat.le_of_ble_eq_true rfl) H1 (ao.refl _) _ fun H2 u2 s2 R2 => ?_
  have s12 := s1.trans s2
  have gl := g.len
  refine ⟨.ref a1, u2, c, 0, ps, [(Str.ofString "q", 1)], rfl, Rl.mono s12, R2, g.can, ⟨List.pairwise_singleton _ _, fun p hp => by rw [List.mem_singleton.mp hp]; exact Int.le_refl _⟩, by omega, Nat.le_of_ble_eq_true rfl, fun H3 w3 qs s3 R3 C3 t3 l3 => ?_⟩
  have lx : xs.length = 5 := rx.length
  have hL3 := s3 _ _ (s2 _ _ hL)
  refine ⟨L, xs, w3, rfl, rfl, hL3, by rw [sizeLine_eq, lx]; decide, ?_⟩
  have t4 : bG H3 (upd H3 L (.lst (xs ++ [w3]))) := iB hL3
  have t14 : bG H (upd H3 L (.lst (xs ++ [w3]))) := fun b zs h => t4 _ _ (s3 _ _ (s12 _ _ h))
  obtain ⟨g0, g1⟩ := mod_lt (a := x / 9) 6 (by decide)
  obtain ⟨v, c', ps', hat, Rv, gv⟩ : ∃ v c' ps', (xs ++ [w3])[(x / 9 % 6).toNat]? = some v /\ Rep (upd H3 L (.lst (xs ++ [w3]))) (aN c' ps') v /\ GdK un c' ps' := by
   by_cases h5 : (x / 9 % 6).toNat < 5
   ·have hlt : (x / 9 % 6).toNat < xs.length := by omega
    obtain ⟨d, hd, Rd⟩ := rx.get (List.getElem?_eq_getElem hlt)
    rw [List.getElem?_map] at hd
    cases e : (jE c ps)[(x / 9 % 6).toNat]? with
    | none => rw [e] at hd; cases hd
    | some p =>
     rw [e] at hd
     cases hd
     exact ⟨_, p.1, p.2, by rw [List.getElem?_append_left hlt, List.getElem?_eq_getElem hlt], bS t4 (bQ _ _) (Rd.mono (s2.trans s3)), sL g p (List.mem_of_getElem? e)⟩
   ·exact ⟨w3, c + 0, qs, by rw [show (x / 9 % 6).toNat = xs.length by omega]; simp, bS t4 (bQ _ _) R3, wf g hq C3 t3⟩
  have hat' := ah hat
  rw [show (((x / 9 % 6).toNat : Nat) : Int) = x / 9 % 6 by omega] at hat'
  have hb4 := t14 _ _ hb
  refine ⟨_, rfl, b, _, 0, .str k.word, rfl, rfl, SqT.of hb4, ah (j := 0) rfl, _, rfl, _, rfl, _, _, rfl, rfl, ⟨by decide, by decide⟩, _, _, rfl, rfl, (by show (0 : Int) < 6; decide), L, _, _, v, rfl, rfl, SqL.of ab, hat', z2, fun p hp => ?_⟩
  have s5 := ac hp (.tup [.str k.word, v])
  refine ⟨_, rfl, 2, rfl, ?_⟩
  dsimp only [dQ]
  have t5 : bG H (upd (upd H3 L (.lst (xs ++ [w3]))) p (.tup [.str k.word, v])) := fun b zs h => s5 _ _ (t14 _ _ h)
  have rv : Reps (upd (upd H3 L (.lst (xs ++ [w3]))) p (.tup [.str k.word, v])) (.str k.word :: aN c ps :: dt) (.str k.word :: .ref a1 :: ws) := by simp only [Reps]; exact ⟨_, _, rfl, by simp only [Rep], _, _, rfl, bS t5 (bQ _ _) Rl, Rt _ t5⟩
  refine gh (H := upd (upd H3 L (.lst (xs ++ [w3]))) p (.tup [.str k.word, v])) 2 10 (t5 _ _ hb) rv (by rw [List.take_of_length_le (show ((V.str k.word :: V.ref a1 :: ws).drop 2).length <= 10 by show ws.length <= 10; omega)]; exact mx (V.str k.word :: V.ref a1 :: ws) 2 (by rw [List.length_cons, List.length_cons]; omega)) fun H6 p6 w6 s6 h6 r6 => ?_
  have l6 : w6.length = ws.length := by
   have e1 := r6.length
   have e2 := (Rt _ t5).length
   have : (List.take 10 (List.drop 2 (Dv.str k.word :: aN c ps :: dt))).length = dt.length := by rw [List.take_of_length_le]; rfl; show dt.length <= 10; omega
   omega
  refine gb (us := [.str k.word, v]) (ds := [.str k.word, aN c' ps']) (s6 _ _ ab) h6 (by simp only [Reps]; exact ⟨_, _, rfl, by simp only [Rep], _, _, rfl, Rv.mono (s5.trans s6), rfl⟩) r6 (by rw [l6]; show 2 + ws.length <= 1000; omega) fun H7 x7 xs7 s7 h7 r7 => ?_
  have s07 : ao H H7 := fun y o hy => by
   have hy0 := s0 _ _ hy
   have ne : y ≠ L := fun e => by rw [e, hL0] at hy0; cases hy0
   refine s7 _ _ (s6 _ _ (s5 _ _ ?_))
   rw [aq ne]
   exact s3 _ _ (s2 _ _ (s1 _ _ hy))
  refine q H7 _ (mk c' ps') s07 ?_ (gmk _ _ gv) (by rw [smk]; omega)
  rw [emk, Rep]
  refine ⟨x7, xs7, rfl, h7, ?_⟩
  rw [List.take_of_length_le (by have e2 := (Rt _ t5).length; show dt.length <= 10; omega)] at r7
  exact r7
end
abbrev gK : Stmt := top 33
theorem uL {d : Addr} {o : Obj} {kvs : List (Key × V)} {k : Nat} {ix : List Nat} {g : TG} {tt : TT} {te : TE} {σ : St} {H1 : Hp} {Q : List V -> Hp -> Prop} (Pv : Nat -> List V -> Hp -> Prop) (h0 : Pv 0 [] H1) (hl : ∀ i ys H, i <= kvs.length -> Pv i ys H -> H d = some (.frz o (.dK kvs)))
  (hs : ∀ i ys H kx x, kvs[i]? = some (kx, x) -> Pv i ys H -> eu k ix g tt te σ (kV kx) ys H (Pv (i + 1))) (hd : ∀ ys H, Pv kvs.length ys H -> Q ys H) : rLC (Itd d o kvs) k ix g tt te σ H1 Q :=
 my (n := kvs.length) Pv h0 (fun i ys H h p => ⟨hl i ys H (Nat.le_of_lt h) p, h⟩) (fun ys H p => ⟨hl _ ys H (Nat.le_refl _) p, rfl⟩) (fun i ys H x H' h p y => by
  obtain ⟨rfl, k, v, hk, rfl⟩ := y
  exact hs i ys _ k v hk p) hd
section
variable {P : Program} {w : World} {K : PySem.W.Frag} {mg : Str -> Option Value} {base : Heap}
theorem oV : aW ["_law_a", "_law_b", "_law_taken", "_law_parts"] ["_law_a", "_law_b"] (aj gK) := ⟨rfl, rfl, rfl, by decide +kernel, rfl, by decide +kernel, by decide +kernel⟩
theorem uW {f : Addr} {fd : FuncData} (F : Fun K "_law_rest" "_law_rest" gK f fd) (T : Txt K mg) : br P w K mg base CX0 1 f fd ["_law_a", "_law_b"] gz := by
 have nd : (["_law_a", "_law_b", "_law_taken", "_law_parts"] : List Str).Nodup := oV.nd
 refine F.ok oV (fun vs H Q E h => ?_) (fun cdv A outer s H vs Q E hr h => ?_)
 ·obtain ⟨v, u, c, d, ps, rs, rfl, _⟩ := h
  rfl
 obtain ⟨v, u, c, d, ps, rs, rfl, R1, R2, C1, C2, l1, l2, hB, qe, qn⟩ := h
 have hu := cW hr
 obtain ⟨a, a1, us, rfl, ha, ha1, ru, lu⟩ := bn R1
 obtain ⟨b, b1, ws, rfl, hb, hb1, rw', lw⟩ := bn R2
 obtain ⟨zs, ez, hz, ndz, ezd⟩ := cX rw' (aD C2.pw)
 obtain ⟨ys0, ey, hy, ndy, eyd⟩ := cX ru (aD C1.pw)
 refine ⟨_, (@ag _ _ _ _ _ (@aM _ _ (2) _ _ _ _ nd rfl (Or.inr rfl) (@aZ _ _ _ _ _ _ _ _ _ (cT rfl) rfl T.dict (by decide +kernel) (@aa _ _ _ _ _ (@ar _ _ _ _ _ _ _ ap (@pv _ 1 _ _ (by rfl) (by trivial) (by decide) (by decide)) (@ad _ _ _ _) (fun _ _ => rfl)) (@ae _) (by rfl)) (by decide) (by decide) (by rfl) (by rfl)) (by rfl) (by trivial)) (@ag _ _ _ _ _ (@bi _ _ _ _ _ _ _ _ (@PW.pt _ _ _ (@oU _ _ _ _ _ _ _ (@aB _ _ _ _ _ _ _ _ eF (@ar _ _ _ _ _ _ _ ap (@pv _ 1 _ _ (by rfl) (by trivial) (by decide) (by decide)) (@ad _ _ _ _) (fun _ _ => rfl)) (@ar _ _ _ _ _ _ _ ap (@pv _ 0 _ _ (by rfl) (by trivial) (by decide) (by decide)) (@ad _ _ _ _) (fun _ _ => rfl)) (aO _)) (@kZ _ _ _ _ (@vO _ _ _ (@bt _ _ _ _ _ _ _ _ _ (sr rfl) rfl T.any (by decide +kernel) (@aa _ _ _ _ _ (@dq _ _ (["_law_name"]) ([0, 2]) _ _ _ _ _ _ _ _ _ (@pM _ _ _ _ (@pv _ 2 _ _ (by rfl) (by trivial) (by decide) (by decide))) (.of rfl) rfl (fun _ _ _ => aG (i := 0) (bL (l := ["_law_name", "_law_a", "_law_taken"]) ((by decide +kernel)) rfl) rfl (Or.inl rfl)) (bK (by decide)) (fun _ _ _ => (@cu _)) (fun _ _ _ => (@kr _ _ _ _ _ _ _ _ eF (@fP _ _ _ _ _ _ hu (@pv _ 2 _ _ (by rfl) (by trivial) (by decide) (by decide)) (@pv _ 0 _ _ (by rfl) (by trivial) (by decide) (by decide)) (fun _ _ => rfl)) (@cD _ _ _ _ _ _ _ _ _ hu (@aZ _ _ _ _ _ _ _ _ _ (cT rfl) rfl T.dict (by decide +kernel) (@aa _ _ _ _ _ (@ar _ _ _ _ _ _ _ (fX K rfl) (@pv _ 1 _ _ (by rfl) (by trivial) (by decide) (by decide)) (@ad _ _ _ _) (fun _ _ => rfl)) (@ae _) (by rfl)) (by decide) (by decide) (by rfl) (by rfl)) (@pv _ 0 _ _ (by rfl) (by trivial) (by decide) (by decide)) (@ad _ _ _ _) ⟨rfl, rfl, rfl, rfl⟩) (aO _))) (by intro _; rfl)) (@ae _) (by rfl)) (by decide) (by decide) (by rfl) (by rfl)) (by intro _; rfl))))) (@ak _ _ _ (@aE _ _ _ _ (@bW _ _ _))) (@aS _)) (@ag _ _ _ _ _ (@oO _ _ (["_law_name", "_law_many"]) ([2]) _ _ _ _ _ _ _ _ _ _ _ (3) _ nd rfl rfl (@bX _ _ _ _ (@ar _ _ _ _ _ _ _ ap (@pv _ 0 _ _ (by rfl) (by trivial) (by decide) (by decide)) (@ad _ _ _ _) (fun _ _ => rfl))) (.of rfl) rfl (fun _ _ _ => bT rfl (@aQ _ _ _ _ _ (@aG _ _ (0) _ (bL (l := ["_law_name", "_law_many", "_law_taken"]) ((by decide +kernel)) rfl) rfl (Or.inl rfl) (by trivial)) (@aQ _ _ _ _ _ (@aG _ _ (1) _ (bL (l := ["_law_name", "_law_many", "_law_taken"]) ((by decide +kernel)) rfl) rfl (Or.inl rfl) (by trivial)) (@bA _) (by rfl)) (by rfl))) (gH (by decide) (by decide)) (fun _ _ _ => (@cu _)) (fun _ _ _ => (@av _ _ _ _ _ (@aa _ _ _ _ _ (@pv _ 0 _ _ (by rfl) (by trivial) (by decide) (by decide)) (@aa _ _ _ _ _ (@au _ _ _ _ _ _ _ _ dA (@pv _ 1 _ _ (by rfl) (by trivial) (by decide) (by decide)) (@cD _ _ _ _ _ _ _ _ _ hu (@pv _ 2 _ _ (by rfl) (by trivial) (by decide) (by decide)) (@pv _ 0 _ _ (by rfl) (by trivial) (by decide) (by decide)) (@ad _ _ _ _) ⟨rfl, rfl, rfl, rfl⟩)) (@ae _) (by rfl)) (by rfl)))) (by rfl) (by intro _; rfl)) (@ak _ _ _ (@aE _ _ _ _ (@av _ _ _ _ _ (@aa _ _ _ _ _ (@au _ _ _ _ _ _ _ _ dA (@ar _ _ _ _ _ _ _ ap (@pv _ 0 _ _ (by rfl) (by trivial) (by decide) (by decide)) (@ad _ _ _ _) (fun _ _ => rfl)) (@ar _ _ _ _ _ _ _ ap (@pv _ 1 _ _ (by rfl) (by trivial) (by decide) (by decide)) (@ad _ _ _ _) (fun _ _ => rfl))) (@aa _ _ _ _ _ (@aZ _ _ _ _ _ _ _ _ _ ba rfl T.tuple (by decide +kernel) (@aa _ _ _ _ _ (@dq _ _ (["_law_part"]) ([]) _ _ _ _ _ _ _ _ _ (@io _ _ _ _ (@pv _ 3 _ _ (by rfl) (by trivial) (by decide) (by decide))) (.of rfl) rfl (fun _ _ _ => aG (i := 0) (bL (l := ["_law_part"]) ((by decide +kernel)) rfl) rfl (Or.inl rfl)) (bK (by decide)) (fun _ _ _ => dR (@aB _ _ _ _ _ _ _ _ eF (@ar _ _ _ _ _ _ _ (fX K rfl) (@pv _ 0 _ _ (by rfl) (by trivial) (by decide) (by decide)) (@ad _ _ _ _) (fun _ _ => rfl)) (@ad _ _ _ _) (aO _))) (fun _ _ _ => (@pv _ 0 _ _ (by rfl) (by trivial) (by decide) (by decide))) (by intro _; rfl)) (@ae _) (by rfl)) (by decide) (by decide) (by rfl) (by rfl)) (@ae _) (by rfl)) (by rfl)))))))), ?_⟩
 refine ⟨_, rfl, b, _, 1, .ref b1, rfl, rfl, SqT.of hb, ah (j := 1) rfl, b1, zs, rfl, by rw [hb1, ez], hz, ndz, fun t ht => ?_⟩
 rw [ezd]
 have s2 := ac ht (.dK (dk rs))
 have t2 : upd H t (.dK (dk rs)) t = some (.dK (dk rs)) := ab
 generalize upd H t (.dK (dk rs)) = H2 at s2 t2 ⊢
 refine gnm ?_
 dsimp only
 have fin : ∀ (H' : Hp), ao H H' -> Exc d c rs ps -> Q .non H' := fun H' s' ex => qe ex H' s'
 refine ⟨_, rfl, b, _, 0, .int d, rfl, rfl, SqT.of (s2 _ _ hb), ah (j := 0) rfl, _, rfl, a, _, 0, .int c, rfl, rfl, SqT.of (s2 _ _ ha), ah (j := 0) rfl, _, _, rfl, rfl, _, rfl, bm (fun h => bR (qe (.inl (of_decide_eq_true h)) H2 s2)) (fun hcd => ?_)⟩
 have hcd : ¬ c < d := fun z => hcd (decide_eq_true z)
 refine ⟨_, rfl, t, _, rfl, t2, fun o => ?_⟩
 have s3 : ao H (upd H2 t (.frz o (.dK (dk rs)))) := fun y ob e => by
  have ne : y ≠ t := fun z => by rw [z, ht] at e; cases e
  rw [aq ne]; exact s2 _ _ e
 have t3 : upd H2 t (.frz o (.dK (dk rs))) t = some (.frz o (.dK (dk rs))) := ab
 generalize upd H2 t (.frz o (.dK (dk rs))) = H3 at s3 t3 ⊢
 have ndr := aD C2.pw
 refine uL (kvs := dk rs) (fun i ys H' => ao H3 H' /\ ys = ((rs.take i).map fun p => decide (tm ps p.1 < p.2)).map V.bl) ⟨ao.refl _, by simp⟩ (fun i ys H' _ p => p.1 _ _ t3) ?L1 ?_
 case L1 =>
  rintro i ys H4 kx x hx ⟨s4, rfl⟩
  unfold dk at hx
  rw [List.getElem?_map] at hx
  obtain ⟨p, hp, e⟩ := Option.map_eq_some_iff.mp hx
  cases e
  have hi : i < rs.length := (List.getElem?_eq_some_iff.mp hp).1
  have s04 := s3.trans s4
  refine cM ⟨_, rfl, _, rfl, t, .int p.2, rfl, .inl ⟨_, Sum.inr p.1, .inr ⟨o, s4 _ _ t3⟩, rfl, (nQ ndr hp).symm⟩, _, rfl, a, _, 1, .ref a1, rfl, rfl, SqT.of (s04 _ _ ha), ah (j := 1) rfl, a1, ys0, rfl, by rw [s04 _ _ ha1, ey], fun q hq => s04 _ _ (hy q hq), ndy, fun t5 ht5 => ?_⟩
  rw [eyd]
  refine ⟨t5, rfl, .inl ⟨_, .inl ab⟩, _, rfl, _, dC.k (k := Sum.inr p.1) ab, p.2, tm ps p.1, rfl, iY _ _, ?_, s4.trans (ac ht5 _), ?_⟩
  ·rw [List.length_map, List.length_map, List.length_take, sizeLine_eq]; omega
  ·rw [List.take_add_one, hp, List.map_append, List.map_append]; rfl
 rintro ys H4 ⟨s4, rfl⟩ l hl
 rw [show (dk rs).length = rs.length from List.length_map _, List.take_length]
 refine ⟨l, _, rfl, SqL.of ab, _, rfl, ?_⟩
 have s5 := ac hl (.lst ((rs.map fun p => decide (tm ps p.1 < p.2)).map V.bl))
 have sZ := s3.trans (s4.trans s5)
 have tZ := s5 _ _ (s4 _ _ t3)
 generalize upd H4 l (.lst ((rs.map fun p => decide (tm ps p.1 < p.2)).map V.bl)) = HZ at s5 sZ tZ ⊢
 by_cases ex : ∃ p ∈ rs, tm ps p.1 < p.2
 ·have : ((rs.map fun p => decide (tm ps p.1 < p.2)).any id) = true := by
   obtain ⟨p, hp, h⟩ := ex
   rw [List.any_eq_true]
   exact ⟨true, List.mem_map.mpr ⟨p, hp, decide_eq_true h⟩, rfl⟩
  rw [this]
  exact bR (qe (.inr ex) HZ sZ)
 have ef0 : ((rs.map fun p => decide (tm ps p.1 < p.2)).any id) = false := by
  rw [List.any_eq_false]
  intro b hb
  obtain ⟨p, hp, rfl⟩ := List.mem_map.mp hb
  exact fun h => ex ⟨p, hp, of_decide_eq_true h⟩
 rw [ef0]
 have ne : ¬ Exc d c rs ps := fun z => z.elim hcd ex
 refine cr ?_
 refine tnx ?_
 dsimp only
 refine ⟨_, rfl, a, _, 1, .ref a1, rfl, rfl, SqT.of (sZ _ _ ha), ah (j := 1) rfl, a1, rfl, ⟨us, SqT.of (sZ _ _ ha1)⟩, ?_⟩
 refine cY (xs := us) (fun i ys H' => ∃ es : List TK, ys = es.map (fun r => V.ref r.1) /\ ao HZ H' /\ (∀ r ∈ es, H' r.1 = some (.tup [.str (tkV r).1, .int (tkV r).2])) /\ es.map tkV = dr rs (ps.take i)) ⟨[], rfl, ao.refl _, by simp, by simp [dr]⟩ (fun i ys H' _ ⟨_, _, sx, _⟩ => SqT.of (sx _ _ (sZ _ _ ha1))) ?_ ?_
 ·rintro i ys H3 x hx ⟨es, rfl, s3, t3, e3⟩
  obtain ⟨p, e, hp, rfl, he⟩ := bO ru hx
  have hi : i < us.length := (List.getElem?_eq_some_iff.mp hx).1
  have hrs : es.length <= 40 := by
   have := congrArg List.length e3
   simp only [dr, List.length_map, List.length_take] at this
   omega
  refine eQ (s3 _ _ (sZ _ _ he)) ⟨_, rfl, _, rfl, _, rfl, t, rfl, .inl ⟨_, .inr ⟨o, s3 _ _ tZ⟩⟩, _, rfl, _, .inl ⟨_, Sum.inr p.1, .inr ⟨o, s3 _ _ tZ⟩, rfl, rfl⟩, p.2, tm rs p.1, rfl, iY _ _, z2, fun g hg => ⟨by rw [List.length_map, sizeLine_eq]; omega, es ++ [(g, p.1, [.int (p.2 - tm rs p.1)])], by simp, s3.trans (ac hg _), fun r hr' => ?_, ?_⟩⟩
  ·rcases List.mem_append.mp hr' with h | h
   ·exact ac hg _ _ _ (t3 r h)
   ·have e2 := List.mem_singleton.mp h
    subst e2
    exact ab
  ·rw [List.map_append, e3, List.take_add_one, hp]
   unfold dr
   rw [List.map_append]
   rfl
 rintro ys H3 ⟨es, rfl, s3, t3, e3⟩ l hl
 rw [lu, List.take_length] at e3
 have les : es.length <= 20 := by
  have := congrArg List.length e3
  simp only [dr, List.length_map] at this
  omega
 have s4 := ac hl (.lst (es.map fun r => V.ref r.1))
 have h4 : upd H3 l (.lst (es.map fun r => V.ref r.1)) l = some (.lst (es.map fun r => V.ref r.1)) := ab
 have s04 : ao H (upd H3 l (.lst (es.map fun r => V.ref r.1))) := sZ.trans (s3.trans s4)
 have t4 : ∀ r ∈ es, upd H3 l (.lst (es.map fun r => V.ref r.1)) r.1 = some (.tup [.str (tkV r).1, .int (tkV r).2]) := fun r hr' => s4 _ _ (t3 r hr')
 generalize upd H3 l (.lst (es.map fun r => V.ref r.1)) = H4 at s4 h4 s04 t4 ⊢
 refine ⟨_, rfl, a, _, 0, .int c, rfl, rfl, SqT.of (s04 _ _ ha), ah (j := 0) rfl, _, rfl, b, _, 0, .int d, rfl, rfl, SqT.of (s04 _ _ hb), ah (j := 0) rfl, _, _, rfl, rfl, _, rfl, l, rfl, ⟨_, SqL.of h4⟩, ?_⟩
 refine ke (xs := es.map fun r => V.ref r.1) (fun i ys H' => H' = H4 /\ ∃ fs : List TK, ys = fs.map (fun r => V.ref r.1) /\ fs = (es.take i).filter fun r => decide (0 < (tkV r).2)) ⟨rfl, [], rfl, by simp⟩ (fun i ys H' _ p => by rw [p.1]; exact SqL.of h4) ?_ ?_
 ·rintro i ys H5 x hx ⟨rfl, fs, rfl, ef⟩
  rw [List.getElem?_map] at hx
  obtain ⟨r, hr', rfl⟩ := Option.map_eq_some_iff.mp hx
  have hrm := List.mem_of_getElem? hr'
  have hti : es.take (i + 1) = es.take i ++ [r] := by rw [List.take_add_one, hr']; rfl
  have lf : fs.length <= 20 := by
   rw [ef]
   refine Nat.le_trans (List.length_filter_le _ _) ?_
   rw [List.length_take]; omega
  refine eW ⟨_, rfl, r.1, _, 1, .int (tkV r).2, rfl, rfl, SqT.of (t4 r hrm), ah (j := 1) rfl, _, _, rfl, rfl, _, rfl, ?_⟩
  by_cases hp0 : 0 < (tkV r).2
  ·rw [decide_eq_true hp0]
   refine bR ⟨_, rfl, by rw [List.length_map, sizeLine_eq]; omega, rfl, fs ++ [r], by simp, ?_⟩
   rw [hti, List.filter_append, ef]
   simp [hp0]
  ·rw [decide_eq_false hp0]
   refine cr ⟨rfl, fs, rfl, ?_⟩
   rw [hti, List.filter_append, ef]
   simp [hp0]
 rintro ys H5 ⟨rfl, fs, rfl, ef⟩ l2' hl2
 rw [List.length_map, List.take_length] at ef
 refine ⟨l2', _, rfl, .inl ⟨SqL.of ab, fun g hg => ⟨z2, fun r hr' => ?_⟩⟩⟩
 have s5 := ac hl2 (.lst (fs.map fun r => V.ref r.1))
 have s6 := ac hg (.tup (fs.map fun r => V.ref r.1))
 have s7 := ac hr' (.tup [.int (c - d), .ref g])
 have efm : fs.map tkV = (dr rs ps).filter fun p => decide (0 < p.2) := by
  rw [<- e3, ef, List.filter_map]; rfl
 obtain ⟨can, tmq⟩ := iE C1 C2 ne
 rw [<- efm] at can tmq
 have inf : ∀ r ∈ fs, r ∈ es := fun r h => by rw [ef] at h; exact (List.mem_filter.mp h).1
 refine qn ne _ _ (fs.map tkV) (s04.trans (s5.trans (s6.trans s7))) ?_ can tmq ?_
 ·exact dc ab (s7 _ _ ab) (cg fun r h => s7 _ _ (s6 _ _ (s5 _ _ (t4 r (inf r h)))))
 ·rw [List.length_map, ef]
  exact Nat.le_trans (List.length_filter_le _ _) les
end
theorem vL {X : Cx} (K : PySem.W.Frag) (e : X.K = K) : OpR X (compareOp .NotIn) (rIn K true) := by subst e; exact kQ
theorem tU {fn un : List Str} {H : Hp} {d w8 : Addr} {en : List En} {x0 : Str} {l : Pl} (pd : Pd fn un H d en) (hn : x0 ∉ aA (aH en)) (hf : x0 ∈ fn) (gL : Gd un l) (u6 : un.length <= 6) (Rz : Rep H (plD l) (.ref w8)) :
  bq d H (upd H d (.dK (cC (enK en) (Sum.inr x0) (.ref w8)))) /\ bG H (upd H d (.dK (cC (enK en) (Sum.inr x0) (.ref w8)))) /\ Pd fn un (upd H d (.dK (cC (enK en) (Sum.inr x0) (.ref w8)))) d (en ++ [(x0, .ref w8, l)]) /\ aH (en ++ [(x0, V.ref w8, l)]) = aH en ++ [(x0, l)] := by
 have sB := bq.upd H d (.dK (cC (enK en) (Sum.inr x0) (.ref w8)))
 have tB := sB.tupsD pd.at_
 have pn : cC (enK en) (Sum.inr x0) (.ref w8) = enK (en ++ [(x0, .ref w8, l)]) := by
  have : cC (enK en) (Sum.inr x0) (.ref w8) = enK en ++ [(Sum.inr x0, .ref w8)] := by
   unfold cC
   rw [if_neg]
   intro z
   rw [List.any_eq_true] at z
   obtain ⟨q, hq, e⟩ := z
   obtain ⟨y, hy, rfl⟩ := List.mem_map.mp hq
   have e' : (Sum.inr y.1 : Key) = Sum.inr x0 := of_decide_eq_true e
   injection e' with e'
   exact hn (by unfold aA aH; rw [List.map_map]; exact List.mem_map.mpr ⟨y, hy, e'⟩)
  rw [this]
  unfold enK
  rw [List.map_append]; rfl
 have pe : aH (en ++ [(x0, V.ref w8, l)]) = aH en ++ [(x0, l)] := List.map_append
 refine ⟨sB, tB, ⟨by rw [ab, pn], ⟨fun x hx => ?_⟩, ?_⟩, pe⟩
 ·rcases List.mem_append.mp hx with h | h
  ·exact (pd.ok.tup tB).all x h
  ·rw [List.mem_singleton.mp h]
   exact ⟨bS tB (bQ _ _) Rz, gL.good u6, w8, rfl⟩
 ·rw [pe]
  refine ⟨?_, fun x hx => ?_, fun x hx => ?_⟩
  ·unfold aA
   rw [List.map_append]
   exact List.nodup_append.mpr ⟨pd.pl.nd, by simp, fun x hx y hy e => hn (by rw [List.mem_singleton.mp hy] at e; have e2 : x = x0 := e; rw [<- e2]; exact hx)⟩
  ·unfold aA at hx
   rw [List.map_append] at hx
   rcases List.mem_append.mp hx with h | h
   ·exact pd.pl.fn x h
   ·rw [List.mem_singleton.mp h]; exact hf
  ·rcases List.mem_append.mp hx with h | h
   ·exact pd.pl.gd x h
   ·rw [List.mem_singleton.mp h]; exact gL
theorem tD (x : Str) (ns : List Str) : inV (.str x) (ns.map V.str) = decide (x ∈ ns) := by
 rw [Bool.eq_iff_iff, decide_eq_true_iff]
 unfold inV
 rw [List.any_eq_true]
 constructor
 ·rintro ⟨v, hv, e⟩
  obtain ⟨y, hy, rfl⟩ := List.mem_map.mp hv
  have : y = x := by simpa [eqV] using e
  exact this ▸ hy
 ·intro h
  exact ⟨_, List.mem_map_of_mem h, by simp [eqV]⟩
theorem qu (ns : List Str) : (ns.map V.str).all gm = true := by
 rw [List.all_eq_true]
 intro v hv
 obtain ⟨x, _, rfl⟩ := List.mem_map.mp hv
 rfl
abbrev je : Stmt := top 34
section
variable {P : Program} {w : World} {K : PySem.W.Frag} {mg : Str -> Option Value} {base : Heap}
theorem rh : aW ["_law_names", "_law_params", "_law_given_here", "_law_places", "_law_mine", "_law_yours", "_law_one", "_law_other", "_law_free", "_law_known", "_law_rest_here", "_law_left"] ["_law_names", "_law_params", "_law_given_here"] (aj je) := ⟨rfl, rfl, rfl, by decide +kernel, rfl, by decide +kernel, by decide +kernel⟩
theorem wA {f : Addr} {fd : FuncData} {k0 : Nat} {fn un : List Str} (F : Fun K "_law_due" "_law_due" je f fd) (T : Txt K mg) (D_law_points : Def P w K mg base k0 "_law_points" ["_law_kind_here"] (eD 100)) (D_law_put : Def P w K mg base k0 "_law_put" ["_law_a", "_law_places"] lJ) (D_law_rest : Def P w K mg base k0 "_law_rest" ["_law_a", "_law_b"] gz) : br P w K mg base CX0 (k0 + 1) f fd ["_law_names", "_law_params", "_law_given_here"] (kC fn un) := by
 have nd : (["_law_names", "_law_params", "_law_given_here", "_law_places", "_law_mine", "_law_yours", "_law_one", "_law_other", "_law_free", "_law_known", "_law_rest_here", "_law_left"] : List Str).Nodup := rh.nd
 refine F.ok rh (fun vs H Q E h => ?_) (fun cdv A outer s H vs Q E hr h => ?_)
 ·obtain ⟨v, a1, a2, names, ks, js, us1, us2, rfl, _⟩ := h
  rfl
 obtain ⟨v, a1, a2, names, ks, js, us1, us2, rfl, Rn, h1, R1, h2, R2, kA, jA, f4, u6, n4, hb, q⟩ := h
 have hu := cW hr
 have hu9 := iX hr
 have huL : (A.deeper (PyProof.Rows.envOfC (Str.ofString "_law_due") (aj je) s.heap.objs.size f cdv)).units < cLine := by omega
 obtain ⟨b, ws, rfl, hbn, Rw⟩ := Rep.tup_inv Rn
 have ew := dO Rw
 subst ew
 refine ⟨_, (@ag _ _ _ _ _ (@aM _ _ (3) _ _ _ _ nd rfl (Or.inr rfl) (@dI _ _) (by rfl) (by trivial)) (@ag _ _ _ _ _ (@cv _ _ _ _ _ _ _ _ PassesOwn.never rfl (@lZ _ _ _ _ _ _ _ _ _ rfl T.zip (@aa _ _ _ _ _ (@pv _ 1 _ _ (by rfl) (by trivial) (by decide) (by decide)) (@aa _ _ _ _ _ (@pv _ 2 _ _ (by rfl) (by trivial) (by decide) (by decide)) (@ae _) (by rfl)) (by rfl)) (by rfl) (by rfl)) (@bT _ _ _ _ _ _ rfl (@aQ _ _ _ _ _ (@aG _ _ (4) _ nd rfl (Or.inl rfl) (by trivial)) (@aQ _ _ _ _ _ (@aG _ _ (5) _ nd rfl (Or.inl rfl) (by trivial)) (@bA _) (by rfl)) (by rfl)) (by rfl) (by rfl)) (@ak _ _ _ (@cv _ _ _ _ _ _ _ _ PassesOwn.never rfl (@lZ _ _ _ _ _ _ _ _ _ rfl T.zip (@aa _ _ _ _ _ (@aI _ _ _ _ _ _ _ _ _ _ D_law_points hr rfl (@aa _ _ _ _ _ (@pv _ 4 _ _ (by rfl) (by trivial) (by decide) (by decide)) (@ae _) (by rfl)) (by decide) (by rfl) (by rfl)) (@aa _ _ _ _ _ (@aI _ _ _ _ _ _ _ _ _ _ D_law_points hr rfl (@aa _ _ _ _ _ (@pv _ 5 _ _ (by rfl) (by trivial) (by decide) (by decide)) (@ae _) (by rfl)) (by decide) (by rfl) (by rfl)) (@ae _) (by rfl)) (by rfl)) (by rfl) (by rfl)) (@bT _ _ _ _ _ _ rfl (@aQ _ _ _ _ _ (@aG _ _ (6) _ nd rfl (Or.inl rfl) (by trivial)) (@aQ _ _ _ _ _ (@aG _ _ (7) _ nd rfl (Or.inl rfl) (by trivial)) (@bA _) (by rfl)) (by rfl)) (by rfl) (by rfl)) (@ag _ _ _ _ _ (@bi _ _ _ _ _ _ _ _ (@aB _ _ _ _ _ _ _ _ vi (@ar _ _ _ _ _ _ _ ap (@pv _ 6 _ _ (by rfl) (by trivial) (by decide) (by decide)) (@ad _ _ _ _) (fun _ _ => rfl)) (@ar _ _ _ _ _ _ _ ap (@pv _ 7 _ _ (by rfl) (by trivial) (by decide) (by decide)) (@ad _ _ _ _) (fun _ _ => rfl)) (aO _)) (@ak _ _ _ (@aE _ _ _ _ (@av _ _ _ _ _ (@aa _ _ _ _ _ (@aY _ _ _ _) (@ae _) (by rfl))))) (@aS _)) (@ak _ _ _ (@bi _ _ _ _ _ _ _ _ (@aB _ _ _ _ _ _ _ _ eX (@ar _ _ _ _ _ _ _ ap (@pv _ 6 _ _ (by rfl) (by trivial) (by decide) (by decide)) (@ad _ _ _ _) (fun _ _ => rfl)) (@bW _ _ _) (aO _)) (@ag _ _ _ _ _ (@aM _ _ (8) _ _ _ _ nd rfl (Or.inr rfl) (@dq _ _ (["_law_name", "_law_many"]) ([3]) _ _ _ _ _ _ _ _ _ (@bX _ _ _ _ (@ar _ _ _ _ _ _ _ ap (@ar _ _ _ _ _ _ _ ap (@pv _ 6 _ _ (by rfl) (by trivial) (by decide) (by decide)) (@ad _ _ _ _) (fun _ _ => rfl)) (@ad _ _ _ _) (fun _ _ => rfl))) (.of rfl) rfl (fun _ _ _ => bT rfl (@aQ _ _ _ _ _ (@aG _ _ (0) _ (bL (l := ["_law_name", "_law_many", "_law_places"]) ((by decide +kernel)) rfl) rfl (Or.inl rfl) (by trivial)) (@aQ _ _ _ _ _ (@aG _ _ (1) _ (bL (l := ["_law_name", "_law_many", "_law_places"]) ((by decide +kernel)) rfl) rfl (Or.inl rfl) (by trivial)) (@bA _) (by rfl)) (by rfl))) (gH (by decide) (by decide)) (fun _ _ _ => dR (@aB _ _ _ _ _ _ _ _ (ju hu) (@pv _ 0 _ _ (by rfl) (by trivial) (by decide) (by decide)) (@pv _ 2 _ _ (by rfl) (by trivial) (by decide) (by decide)) (by with_unfolding_all rfl))) (fun _ _ _ => (@pv _ 0 _ _ (by rfl) (by trivial) (by decide) (by decide))) (by intro _; rfl)) (by rfl) (by trivial)) (@ag _ _ _ _ _ (@aM _ _ (9) _ _ _ _ nd rfl (Or.inl rfl) (@av _ _ _ _ _ (@aa _ _ _ _ _ (@ar _ _ _ _ _ _ _ ap (@ar _ _ _ _ _ _ _ ap (@pv _ 6 _ _ (by rfl) (by trivial) (by decide) (by decide)) (@ad _ _ _ _) (fun _ _ => rfl)) (@ad _ _ _ _) (fun _ _ => rfl)) (@aa _ _ _ _ _ (@aZ _ _ _ _ _ _ _ _ _ ba rfl T.tuple (by decide +kernel) (@aa _ _ _ _ _ (@dq _ _ (["_law_part"]) ([8]) _ _ _ _ _ _ _ _ _ (@bX _ _ _ _ (@ar _ _ _ _ _ _ _ ap (@ar _ _ _ _ _ _ _ ap (@pv _ 6 _ _ (by rfl) (by trivial) (by decide) (by decide)) (@ad _ _ _ _) (fun _ _ => rfl)) (@ad _ _ _ _) (fun _ _ => rfl))) (.of rfl) rfl (fun _ _ _ => aG (i := 0) (bL (l := ["_law_part", "_law_free"]) ((by decide +kernel)) rfl) rfl (Or.inl rfl)) (bK (by decide)) (fun _ _ _ => dR (@aB _ _ _ _ _ _ _ _ (vL K rfl) (@ar _ _ _ _ _ _ _ (fX K rfl) (@pv _ 0 _ _ (by rfl) (by trivial) (by decide) (by decide)) (@ad _ _ _ _) (fun _ _ => rfl)) (@pv _ 1 _ _ (by rfl) (by trivial) (by decide) (by decide)) (by with_unfolding_all rfl))) (fun _ _ _ => (@pv _ 0 _ _ (by rfl) (by trivial) (by decide) (by decide))) (by intro _; rfl)) (@ae _) (by rfl)) (by decide) (by decide) (by rfl) (by rfl)) (@ae _) (by rfl)) (by rfl))) (by rfl) (by trivial)) (@ag _ _ _ _ _ (@aM _ _ (10) _ _ _ _ nd rfl (Or.inl rfl) (@aI _ _ _ _ _ _ _ _ _ _ D_law_put hr rfl (@aa _ _ _ _ _ (@pv _ 9 _ _ (by rfl) (by trivial) (by decide) (by decide)) (@aa _ _ _ _ _ (@pv _ 3 _ _ (by rfl) (by trivial) (by decide) (by decide)) (@ae _) (by rfl)) (by rfl)) (by decide) (by rfl) (by rfl)) (by rfl) (by trivial)) (@ag _ _ _ _ _ (@bi _ _ _ _ _ _ _ _ (@PW.pt _ _ _ (@gq _ _ _ _ _ _ _ (@aB _ _ _ _ _ _ _ _ (ou huL) (@pv _ 8 _ _ (by rfl) (by trivial) (by decide) (by decide)) (@bC _ _ _ _ (@ae _)) (aO _)) (@fg _ _ _ _ (@aB _ _ _ _ _ _ _ _ (vK hu9) (@pv _ 10 _ _ (by rfl) (by trivial) (by decide) (by decide)) (@ar _ _ _ _ _ _ _ ap (@pv _ 7 _ _ (by rfl) (by trivial) (by decide) (by decide)) (@ad _ _ _ _) (fun _ _ => rfl)) (aO _))))) (@ak _ _ _ (@aE _ _ _ _ (@av _ _ _ _ _ (@aa _ _ _ _ _ (@aY _ _ _ _) (@aa _ _ _ _ _ (@pv _ 10 _ _ (by rfl) (by trivial) (by decide) (by decide)) (@aa _ _ _ _ _ (@ar _ _ _ _ _ _ _ ap (@pv _ 7 _ _ (by rfl) (by trivial) (by decide) (by decide)) (@ad _ _ _ _) (fun _ _ => rfl)) (@ae _) (by rfl)) (by rfl)) (by rfl))))) (@aS _)) (@ak _ _ _ (@bi _ _ _ _ _ _ _ _ (@aB _ _ _ _ _ _ _ _ (wq huL) (@pv _ 8 _ _ (by rfl) (by trivial) (by decide) (by decide)) (@bC _ _ _ _ (@ae _)) (aO _)) (@ag _ _ _ _ _ (@aM _ _ (11) _ _ _ _ nd rfl (Or.inl rfl) (@aI _ _ _ _ _ _ _ _ _ _ D_law_rest hr rfl (@aa _ _ _ _ _ (@ar _ _ _ _ _ _ _ ap (@pv _ 7 _ _ (by rfl) (by trivial) (by decide) (by decide)) (@ad _ _ _ _) (fun _ _ => rfl)) (@aa _ _ _ _ _ (@pv _ 10 _ _ (by rfl) (by trivial) (by decide) (by decide)) (@ae _) (by rfl)) (by rfl)) (by decide) (by rfl) (by rfl)) (by rfl) (by trivial)) (@ag _ _ _ _ _ (@bi _ _ _ _ _ _ _ _ (@aB _ _ _ _ _ _ _ _ vZ (@pv _ 11 _ _ (by rfl) (by trivial) (by decide) (by decide)) (@bW _ _ _) (aO _)) (@ak _ _ _ (@aE _ _ _ _ (@av _ _ _ _ _ (@aa _ _ _ _ _ (@aY _ _ _ _) (@aa _ _ _ _ _ (@pv _ 10 _ _ (by rfl) (by trivial) (by decide) (by decide)) (@aa _ _ _ _ _ (@ar _ _ _ _ _ _ _ ap (@pv _ 7 _ _ (by rfl) (by trivial) (by decide) (by decide)) (@ad _ _ _ _) (fun _ _ => rfl)) (@ae _) (by rfl)) (by rfl)) (by rfl))))) (@aS _)) (@ak _ _ _ (@dg _ _ _ _ _ _ _ _ _ hu (@pv _ 3 _ _ (by rfl) (by trivial) (by decide) (by decide)) (@ar _ _ _ _ _ _ _ bJ (@pv _ 8 _ _ (by rfl) (by trivial) (by decide) (by decide)) (@ad _ _ _ _) (fun _ _ => rfl)) (@pv _ 11 _ _ (by rfl) (by trivial) (by decide) (by decide)) rfl)))) (@aS _))))))) (@aS _)))) (by intro _; rfl))) (by intro _; rfl)) (@ak _ _ _ (@aE _ _ _ _ (@av _ _ _ _ _ (@aa _ _ _ _ _ (@aY _ _ _ _) (@aa _ _ _ _ _ (@aZ _ _ _ _ _ _ _ _ _ ba rfl T.tuple (by decide +kernel) (@aa _ _ _ _ _ (@dq _ _ (["_law_name"]) ([3]) _ _ _ _ _ _ _ _ _ (@bX _ _ _ _ (@pv _ 0 _ _ (by rfl) (by trivial) (by decide) (by decide))) (.of rfl) rfl (fun _ _ _ => aG (i := 0) (bL (l := ["_law_name", "_law_places"]) ((by decide +kernel)) rfl) rfl (Or.inl rfl)) (bK (by decide)) (fun _ _ _ => (@cu _)) (fun _ _ _ => (@fP _ _ _ _ _ _ hu (@pv _ 1 _ _ (by rfl) (by trivial) (by decide) (by decide)) (@pv _ 0 _ _ (by rfl) (by trivial) (by decide) (by decide)) (fun _ _ => rfl))) (by intro _; rfl)) (@ae _) (by rfl)) (by decide) (by decide) (by rfl) (by rfl)) (@ae _) (by rfl)) (by rfl))))))), ?_⟩
 intro d hd
 have s0 : ao H (upd H d (.dK [])) := ac hd _
 have pd0 : Pd fn un (upd H d (.dK [])) d [] := ⟨ab, ⟨by simp⟩, ⟨by simp [aA, aH], by simp [aA, aH], by simp [aH]⟩⟩
 generalize upd H d (.dK []) = H0 at s0 pd0 ⊢
 refine ⟨_, rfl, _, rfl, a1, a2, rfl, ⟨_, SqL.of (s0 _ _ h1)⟩, ⟨_, SqL.of (s0 _ _ h2)⟩, iy (xs := us1) (ys := us2) (fun i σ H' => ∃ (o1 o2 o3 o4 o5 o6 o7 o8 : Option V) (en' : List En), σ = [some (.ref b), some (.ref a1), some (.ref a2), some (.ref d), o1, o2, o3, o4, o5, o6, o7, o8] /\ ao H H' /\ bG H H' /\ Pd fn un H' d en' /\ cV [] (ks.zip js) = cV (aH en') ((ks.zip js).drop i)) ⟨_, _, _, _, _, _, _, _, [], rfl, s0, ao.tups s0, pd0, rfl⟩ (fun i σ H' ⟨_, _, _, _, _, _, _, _, _, _, sx, _⟩ => ⟨SqL.of (sx _ _ h1), SqL.of (sx _ _ h2)⟩) ?T1 ?_⟩
 case T1 =>
  rintro i x y σ H3 p hx hy ⟨o1, o2, o3, o4, o5, o6, o7, o8, en', rfl, s3, t3, pd3, eh⟩ hp
  obtain ⟨kx, hkx, Rx⟩ := cB R1 hx
  obtain ⟨ky, hky, Ry⟩ := cB R2 hy
  have s4 := ac hp (.tup [x, y])
  have s04 := s3.trans s4
  have t04 := t3.trans (ao.tups s4)
  have pd4 := pd3.m s4
  have Rx4 := Rx.mono s04
  have Ry4 := Ry.mono s04
  rw [jg (ig hkx hky)] at eh
  refine ⟨p, _, rfl, SqT.of ab, rfl, _, _, rfl, _, _, rfl, rfl, ?_⟩
  generalize upd H3 p (.tup [x, y]) = H4 at s4 s04 t04 Rx4 Ry4 pd4 ⊢
  obtain ⟨k1, k2⟩ := kA kx (List.mem_of_getElem? hkx)
  obtain ⟨j1, j2⟩ := jA ky (List.mem_of_getElem? hky)
  have flt : ∀ dv, bF (aH en') (kx.pts.zip ky.pts) = .inl dv -> ∀ H' w, bq d H4 H' -> Rep H' dv w -> Q w H' := fun dv hdv H5 w5 s5 R5 => by
   rw [hdv] at eh
   refine q H5 w5 (fun g o e => s5 g o (ai e hd) (s04 _ _ e)) ?_
   unfold fH
   rw [eh]
   exact R5
  refine ⟨_, rfl, x, kx, rfl, Rx4, k1, Nat.le_refl _, fun H5 l1 vs1 s5 hl1 g1 P1 => ?_⟩
  refine ⟨_, rfl, y, ky, rfl, Ry4.mono s5, j1, Nat.le_refl _, fun H6 l2 vs2 s6 hl2 g2 P2 => ?_⟩
  have P1' := P1.mono s6
  have g1' := s6 _ _ g1
  have s46 := s5.trans s6
  have l1d : l1 ≠ d := fun e => by rw [e, pd4.at_] at hl1; cases hl1
  have l2d : l2 ≠ d := fun e => by rw [e, (pd4.m s5).at_] at hl2; cases hl2
  refine ⟨l1, l2, rfl, ⟨_, SqL.of g1'⟩, ⟨_, SqL.of g2⟩, iy (xs := vs1) (ys := vs2) (fun i σ H' => ∃ (o3 o4 o5 o6 o7 o8 : Option V) (en2 : List En), σ = [some (.ref b), some (.ref a1), some (.ref a2), some (.ref d), some x, some y, o3, o4, o5, o6, o7, o8] /\ bq d H6 H' /\ bG H6 H' /\ Pd fn un H' d en2 /\ bF (aH en') (kx.pts.zip ky.pts) = bF (aH en2) ((kx.pts.zip ky.pts).drop i)) ⟨_, _, _, _, _, _, en', rfl, bq.refl _ _, bG.refl _, pd4.m s46, rfl⟩ (fun i σ H' ⟨_, _, _, _, _, _, _, _, sx, _⟩ => ⟨SqL.of (sx _ _ l1d g1'), SqL.of (sx _ _ l2d g2)⟩) ?T2 ?_⟩
  case T2 =>
   rintro i x1 y1 σ H7 p7 hx1 hy1 ⟨o3, o4, o5, o6, o7, o8, en2, rfl, s7, t7, pd7, eK⟩ hp7
   obtain ⟨kz, hkz, Rz⟩ := cB P1' hx1
   obtain ⟨kw, hkw, Rw⟩ := cB P2 hy1
   have s8 := ac hp7 (.tup [x1, y1])
   have s68 := s7.trans (ao.b d s8)
   have t68 := t7.trans (ao.tups s8)
   have Rz8 := bS t68 (tE kz) Rz
   have Rw8 := bS t68 (tE kw) Rw
   have pd8 := pd7.m s8
   have u8 : upd H7 p7 (.tup [x1, y1]) p7 = some (.tup [x1, y1]) := ab
   generalize upd H7 p7 (.tup [x1, y1]) = H8 at s8 s68 t68 Rz8 Rw8 pd8 u8 ⊢
   have s48 : bq d H4 H8 := (ao.b d s46).trans s68
   obtain ⟨az, uz, rfl, haz, Rlz⟩ := oR Rz8
   obtain ⟨aw, uw, rfl, haw, Rlw⟩ := oR Rw8
   rw [jf (ig hkz hkw)] at eK
   refine ⟨p7, _, rfl, SqT.of u8, rfl, _, _, rfl, _, _, rfl, rfl, ?_⟩
   refine ⟨_, rfl, az, _, 0, .str kz.word, rfl, rfl, SqT.of haz, ah (j := 0) rfl, _, rfl, aw, _, 0, .str kw.word, rfl, rfl, SqT.of haw, ah (j := 0) rfl, rfl, _, rfl, ?_⟩
   by_cases hw : ¬ kz.word = kw.word
   ·rw [show (!decide (V.str kz.word = V.str kw.word)) = true by rw [decide_eq_false (wne hw)]; rfl]
    have eS : bP (aH en2) kz kw = .inl (.tup [.str "unlike"]) := by unfold bP; rw [if_pos hw]
    rw [eS] at eK
    exact bR ⟨z1, fun r hr' => flt _ eK _ _ (s48.trans (ao.b d (ac hr' _))) (iP ab)⟩
   replace hw := Classical.not_not.mp hw
   rw [show (!decide (V.str kz.word = V.str kw.word)) = false by rw [hw, decide_eq_true rfl]; rfl]
   have eS : bP (aH en2) kz kw = match kz.len?, kw.len? with | some a, some b => bindL (aH en2) a.1 a.2 ⟨b.1, b.2⟩ | _, _ => .inr (aH en2) := by
    unfold bP; rw [if_neg (fun z => z hw)] <;> (cases kz.len? <;> cases kw.len? <;> rfl)
   refine cr ⟨_, rfl, az, _, 1, uz, rfl, rfl, SqT.of haz, ah (j := 1) rfl, rfl, _, rfl, ?_⟩
   rcases mM Rlz with ⟨e, rfl⟩ | ⟨r, ds, e, ed, Rd⟩
   ·rw [show (!decide (V.non = V.non)) = false by simp]
    refine cr ⟨_, _, _, _, _, _, en2, rfl, s68, t68, pd8, ?_⟩
    rw [eK, eS, e]
   have hw' : uz ≠ .non := fun z => by subst z; simp only [Rep] at Rd; obtain ⟨_, _, z, _⟩ := Rd; cases z
   rw [show (!decide (uz = V.non)) = true by simp [hw']]
   obtain ⟨r2, e2⟩ := Kd.some_len hw e
   replace eS : bP (aH en2) kz kw = bindL (aH en2) r.1 r.2 ⟨r2.1, r2.2⟩ := by rw [eS, e, e2]
   have pm := dm k2 kz (List.mem_of_getElem? hkz) r.1 r.2 e
   have gd : GdK un r2.1 r2.2 := dm j2 kw (List.mem_of_getElem? hkw) r2.1 r2.2 e2
   rw [e] at Rlz
   rw [e2] at Rlw
   obtain ⟨c, ps⟩ := r
   obtain ⟨g0c, g0p⟩ := r2
   have Rlz : Rep H8 (aN c ps) uz := Rlz
   have Rg : Rep H8 (plD ⟨g0c, g0p⟩) uw := Rlw
   have gd : Gd un ⟨g0c, g0p⟩ := gd
   have pm : Pm fn c ps := pm
   have eS : bP (aH en2) kz kw = bindL (aH en2) c ps ⟨g0c, g0p⟩ := eS
   rw [eS] at eK
   generalize (⟨g0c, g0p⟩ : Pl) = g at Rg gd eS eK
   obtain ⟨a, a1', us, rfl, ha, ha1, ru, lu⟩ := bn Rlz
   have p5 := pm.len
   have pd := pd8
   refine bR ?_
   refine ⟨_, rfl, az, _, 1, .ref a, rfl, rfl, SqT.of haz, ah (j := 1) rfl, a, _, 1, .ref a1', rfl, rfl, SqT.of ha, ah (j := 1) rfl, a1', rfl, ⟨us, SqT.of ha1⟩, cY (xs := us) (fun i ys H' => H' = H8 /\ ys = ((aF (aA (aH en2)) (ps.take i)).map (·.1)).map V.str) ⟨rfl, by simp [aF]⟩ (fun i ys H' _ p => by rw [p.1]; exact SqT.of ha1) ?L1 ?_⟩
   case L1 =>
    rintro i ys H' x hx ⟨rfl, rfl⟩
    obtain ⟨p, e, hp, rfl, he⟩ := bO ru hx
    have hi : i < us.length := (List.getElem?_eq_some_iff.mp hx).1
    have hti : ps.take (i + 1) = ps.take i ++ [p] := by rw [List.take_add_one, hp]; rfl
    refine ⟨e, _, rfl, SqT.of he, rfl, _, _, rfl, _, _, rfl, rfl, _, rfl, _, rfl, d, _, rfl, dC.k (k := Sum.inr p.1) pd.at_, _, rfl, ?_⟩
    show if (!(cw (enK en2) (Sum.inr p.1)).isSome) = true then _ else _
    rw [kW]
    by_cases h : p.1 ∈ aA (aH en2)
    ·rw [decide_eq_true h]
     refine cr ⟨rfl, ?_⟩
     have : aF (aA (aH en2)) (ps.take (i + 1)) = aF (aA (aH en2)) (ps.take i) := by unfold aF; rw [hti, List.filter_append]; simp [h]
     rw [this]
    ·rw [decide_eq_false h]
     have : aF (aA (aH en2)) (ps.take (i + 1)) = aF (aA (aH en2)) (ps.take i) ++ [p] := by unfold aF; rw [hti, List.filter_append]; simp [h]
     refine bR ⟨_, rfl, ?_, rfl, by rw [this, List.map_append, List.map_append]; rfl⟩
     rw [List.length_map, List.length_map, sizeLine_eq]
     have := List.length_filter_le (fun p : Pr => !decide (p.1 ∈ aA (aH en2))) (ps.take i)
     rw [List.length_take] at this
     unfold aF; omega
   rintro ys H' ⟨rfl, rfl⟩ l hl
   rw [lu, List.take_length]
   refine gnm ?_
   have s9 := ac hl (.lst (((aF (aA (aH en2)) ps).map (·.1)).map V.str))
   have hl9 : upd H' l (.lst (((aF (aA (aH en2)) ps).map (·.1)).map V.str)) l = some (.lst (((aF (aA (aH en2)) ps).map (·.1)).map V.str)) := ab
   have pd9 := pd.m s9
   generalize upd H' l (.lst (((aF (aA (aH en2)) ps).map (·.1)).map V.str)) = H9 at s9 hl9 pd9 ⊢
   refine ⟨_, rfl, az, _, 1, .ref a, rfl, rfl, SqT.of (s9 _ _ haz), ah (j := 1) rfl, a, _, 0, .int c, rfl, rfl, SqT.of (s9 _ _ ha), ah (j := 0) rfl, _, rfl, az, _, 1, .ref a, rfl, rfl, SqT.of (s9 _ _ haz), ah (j := 1) rfl, a, _, 1, .ref a1', rfl, rfl, SqT.of (s9 _ _ ha), ah (j := 1) rfl, a1', rfl, ⟨us, SqT.of (s9 _ _ ha1)⟩, cY (xs := us) (fun i ys H' => H' = H9 /\ ys.length <= i /\ Reps H9 (aV (bd (aA (aH en2)) (ps.take i))) ys) ⟨rfl, Nat.le_refl _, by simp [bd, Reps]⟩ (fun i ys H' _ p => by rw [p.1]; exact SqT.of (s9 _ _ ha1)) ?L2 ?_⟩
   case L2 =>
    rintro i ys H' x hx ⟨rfl, ly, Ry⟩
    obtain ⟨p, e, hp, rfl, he⟩ := bO ru hx
    have hi : i < us.length := (List.getElem?_eq_some_iff.mp hx).1
    have hpm := List.mem_of_getElem? hp
    have hti : ps.take (i + 1) = ps.take i ++ [p] := by rw [List.take_add_one, hp]; rfl
    refine eW ⟨_, rfl, e, _, 0, .str p.1, rfl, rfl, SqT.of (s9 _ _ he), ah (j := 0) rfl, _, rfl, l, _, rfl, .inl (SqL.of hl9), rfl, qu _, _, rfl, ?_⟩
    show if (!inV (.str p.1) (((aF (aA (aH en2)) ps).map (·.1)).map V.str)) = true then _ else _
    rw [tD]
    have eb : (!decide (p.1 ∈ (aF (aA (aH en2)) ps).map (·.1))) = decide (p.1 ∈ aA (aH en2)) := by
     rw [Bool.eq_iff_iff, decide_eq_true_iff, Bool.not_eq_true', decide_eq_false_iff_not]
     constructor
     ·intro h
      exact Classical.byContradiction fun z => h (List.mem_map.mpr ⟨p, List.mem_filter.mpr ⟨hpm, by simp [z]⟩, rfl⟩)
     ·intro h z
      obtain ⟨r, hr', e'⟩ := List.mem_map.mp z
      have := (List.mem_filter.mp hr').2
      rw [e'] at this
      simp [h] at this
    rw [eb]
    by_cases h : p.1 ∈ aA (aH en2)
    ·rw [decide_eq_true h]
     refine bR ⟨_, rfl, by rw [sizeLine_eq]; omega, rfl, by rw [List.length_append, List.length_singleton]; omega, ?_⟩
     have : bd (aA (aH en2)) (ps.take (i + 1)) = bd (aA (aH en2)) (ps.take i) ++ [p] := by unfold bd; rw [hti, List.filter_append]; simp [h]
     rw [this, show aV (bd (aA (aH en2)) (ps.take i) ++ [p]) = aV (bd (aA (aH en2)) (ps.take i)) ++ aV [p] from List.map_append]
     exact Reps.append Ry (bb (fL (s9 _ _ he)))
    ·rw [decide_eq_false h]
     refine cr ⟨rfl, by omega, ?_⟩
     have : bd (aA (aH en2)) (ps.take (i + 1)) = bd (aA (aH en2)) (ps.take i) := by unfold bd; rw [hti, List.filter_append]; simp [h]
     rw [this]; exact Ry
   rintro ys H' ⟨rfl, ly, Ry⟩ r hr'
   rw [lu, List.take_length] at Ry
   refine ⟨r, _, rfl, .inl ⟨SqL.of ab, fun t ht => ⟨z2, fun m hm => ?_⟩⟩⟩
   have p2 := ac hr' (.lst ys)
   have p3 := ac ht (.tup ys)
   have p4 := ac hm (.tup [.int c, .ref t])
   have s14 := p2.trans (p3.trans p4)
   have Rk : Rep (upd (upd (upd H' r (.lst ys)) t (.tup ys)) m (.tup [.int c, .ref t])) (aN c (bd (aA (aH en2)) ps)) (.ref m) := dc ab (p4 _ _ ab) (Ry.mono s14)
   generalize upd (upd (upd H' r (.lst ys)) t (.tup ys)) m (.tup [.int c, .ref t]) = H10 at s14 Rk ⊢
   refine gnm ?_
   have pd10 := pd9.m s14
   refine ⟨_, rfl, _, rfl, .ref m, d, c, bd (aA (aH en2)) ps, en2, rfl, Rk, jO pm.can, Nat.le_trans (List.length_filter_le _ _) pm.len, fun p hp => by have := (pm.le p (iR hp).1).1; omega, pd10.at_, pd10.ok, fun H11 rv C qs s11 Rr Cq eC tq => ?_⟩
   rw [lR] at eC tq
   obtain ⟨eR, C0, C1, qB⟩ := pE pd.pl pm eC Cq tq
   refine gnm ?_
   have sA := s9.trans (s14.trans s11)
   have Rg11 := Rg.mono sA
   have hl11 := s11 _ _ (s14 _ _ hl9)
   have lq : qs.length <= 6 := by have := lS Cq (un := un) fun q hq => (qB q hq).2; omega
   have lg : g.ps.length <= 6 := by have := gd.len; omega
   have s4A : bq d H4 H11 := s48.trans (ao.b d sA)
   refine ⟨_, rfl, Nat.zero_le _, fun e0 he0 => ⟨l, e0, _, rfl, rfl, SqL.of (ac he0 _ _ _ hl11), SqL.of ab, _, rfl, ?_⟩⟩
   have p6 := ac he0 (.lst [])
   have sC := sA.trans p6
   have s4C := s4A.trans (ao.b d p6)
   have s6C := s68.trans (ao.b d sC)
   have t6C := t68.trans (ao.tups sC)
   have Rr6 := Rr.mono p6
   have Rg6 := Rg.mono sC
   have hl6 := p6 _ _ hl11
   have pd6 := pd.m sC
   generalize upd H11 e0 (.lst []) = H12 at p6 sC s4C s6C t6C Rr6 Rg6 hl6 pd6 ⊢
   have tupR : ∀ {H' : Hp} (w0 : String) (k : Addr), H' k = some (.tup [.str w0, rv, uw]) -> Rep H' (aN C qs) rv -> Rep H' (plD g) uw -> Rep H' (.tup [.str w0, plD (ck (aH en2) c ps), plD g]) (.ref k) := fun w0 k hk h1 h2 => by
    rw [eR, Rep]
    exact ⟨k, _, rfl, hk, by simp only [Reps]; exact ⟨_, _, rfl, by simp only [Rep], _, _, rfl, h1, _, _, rfl, h2, rfl⟩⟩
   have haw6 := sC _ _ haw
   cases ef : aF (aA (aH en2)) ps with
   | nil =>
    rw [ef] at hl6
    refine bR ?_
    refine ⟨_, rfl, _, rfl, aw, _, 1, uw, rfl, rfl, SqT.of haw6, ah (j := 1) rfl, 3, _, _, bQ C qs, bQ g.c g.ps, by decide, Rr6, Rg6, fun b0 hb0 => ⟨_, rfl, ?_⟩⟩
    have hb' : b0 = true ↔ ck (aH en2) c ps ≠ g := by
     rw [hb0, eR]
     constructor
     ·intro z y
      exact z (by rw [<- y])
     ·intro z y
      obtain ⟨e1, e2⟩ := jy (congrArg Dv.tup y)
      refine z ?_
      cases g; simp only at e1 e2; rw [e1, e2]
    cases b0 with
    | true =>
     refine bR ⟨_, rfl, _, rfl, aw, _, 1, uw, rfl, rfl, SqT.of haw6, ah (j := 1) rfl, z3, fun k hk => ?_⟩
     have p7 := ac hk (.tup [.str "parts", rv, uw])
     refine flt _ ?_ _ _ (s4C.trans (ao.b d p7)) (tupR "parts" k ab (Rr6.mono p7) (Rg6.mono p7))
     rw [eK]
     unfold bindL; rw [ef]; simp only; rw [if_neg (hb'.mp rfl)]
    | false =>
     have hz : ck (aH en2) c ps = g := Classical.byContradiction fun z => absurd (hb'.mpr z) (by decide)
     refine cr ⟨_, rfl, Nat.zero_le _, fun e1 he1 => ⟨l, e1, _, rfl, rfl, SqL.of (ac he1 _ _ _ hl6), SqL.of ab, _, rfl, ?_⟩⟩
     have p8 := ac he1 (.lst [])
     refine cr ⟨_, _, _, _, _, _, en2, rfl, s6C.trans (ao.b d p8), t6C.trans (ao.tups p8), pd6.m p8, ?_⟩
     rw [eK]
     unfold bindL; rw [ef]; simp only; rw [if_pos hz]
   | cons p0 fr =>
    rw [ef] at hl6
    have p0m : p0 ∈ ps /\ p0.1 ∉ aA (aH en2) := by
     have : p0 ∈ aF (aA (aH en2)) ps := by rw [ef]; exact List.mem_cons_self
     obtain ⟨h1, h2⟩ := List.mem_filter.mp this
     exact ⟨h1, by simpa using h2⟩
    refine cr (cr ?_)
    refine ⟨_, rfl, Nat.zero_le _, fun e1 he1 => ⟨l, e1, _, rfl, rfl, SqL.of (ac he1 _ _ _ hl6), SqL.of ab, _, rfl, ?_⟩⟩
    have p8 := ac he1 (.lst [])
    generalize upd H12 e1 (.lst []) = H13 at p8 ⊢
    have s4D := s4C.trans (ao.b d p8)
    have s6D := s6C.trans (ao.b d p8)
    have t6D := t6C.trans (ao.tups p8)
    have Rr7 := Rr6.mono p8
    have Rg7 := Rg6.mono p8
    have hl7 := p8 _ _ hl6
    have pd7' := pd6.m p8
    have haw7 := p8 _ _ haw6
    refine bR ⟨_, rfl, aw, _, 1, uw, rfl, rfl, SqT.of haw7, ah (j := 1) rfl, _, rfl, uw, rv, g.c, C, g.ps, qs, rfl, Rg7, Rr7, gd.can, Cq, by omega, by omega, fun q hq => by have := (qB q hq).1; omega, fun ex H14 s14' => ?_, fun ne H14 w14 zs s14' Rz Cz tz _ => ?_⟩
    ·refine gnm ?_
     refine ⟨_, rfl, rfl, _, rfl, ?_⟩
     rw [show decide (V.non = V.non) = true by simp]
     refine bR ⟨_, rfl, _, rfl, aw, _, 1, uw, rfl, rfl, SqT.of (s14' _ _ haw7), ah (j := 1) rfl, z3, fun k hk => ?_⟩
     have p9 := ac hk (.tup [.str "exceeds", rv, uw])
     have p10 := s14'.trans p9
     refine flt _ ?_ _ _ (s4D.trans (ao.b d p10)) (tupR "exceeds" k ab (Rr7.mono p10) (Rg7.mono p10))
     rw [eK]
     unfold bindL; rw [ef]; simp only; rw [if_pos (by rw [eR]; exact ex)]
    ·obtain ⟨w8a, _, _, rfl, _, _, _, _⟩ := bn Rz
     refine gnm ?_
     refine ⟨_, rfl, rfl, _, rfl, ?_⟩
     rw [show decide (V.ref w8a = V.non) = false by simp]
     have hl8 := s14' _ _ hl7
     have pdE := pd7'.m s14'
     have rc : aR (ck (aH en2) c ps).ps := by rw [eR]; exact Cq
     obtain ⟨eL, gL⟩ := pr gd (r := ck (aH en2) c ps) (by rw [eR]; exact C0) rc (by rw [eR]; exact ne) Cz (fun x => by rw [tz, eR])
     have rz : (⟨g.c - C, zs⟩ : Pl) = kc g (ck (aH en2) c ps) := by rw [eL, eR]
     have gL' : Gd un ⟨g.c - C, zs⟩ := by rw [eR] at gL; exact gL
     refine cr ⟨_, rfl, _, rfl, _, rfl, l, _, 0, .str p0.1, rfl, rfl, SqL.of hl8, ah (j := 0) rfl, d, _, rfl, gY.k (k := Sum.inr p0.1) pdE.at_ ?_, ?_⟩
     ·rw [show (enK en2).length = en2.length from List.length_map _, sizeLine_eq]; have := pd.len; omega
     obtain ⟨sB, tB, pdN, pe⟩ := tU (l := ⟨g.c - C, zs⟩) pdE p0m.2 (pm.le p0 p0m.1).2 gL' u6 Rz
     refine ⟨_, _, _, _, _, _, _, rfl, s6D.trans ((ao.b d s14').trans sB), t6D.trans ((ao.tups s14').trans tB), pdN, ?_⟩
     rw [eK, pe, rz]
     unfold bindL; rw [ef]; simp only; rw [if_neg (by rw [eR]; exact ne)]
  rintro σ H7 ⟨o3, o4, o5, o6, o7, o8, en2, rfl, s7, t7, pd7, eK⟩
  have e1 := P1.length
  have e2 := P2.length
  rw [List.length_map] at e1 e2
  rw [e1, e2, List.drop_eq_nil_of_le (by rw [List.length_zip]; exact Nat.le_refl _)] at eK
  have eK' : bF (aH en') (kx.pts.zip ky.pts) = .inr (aH en2) := eK
  rw [eK'] at eh
  exact ⟨_, _, _, _, _, _, _, _, en2, rfl, fun g o e => s7 g o (ai e hd) (s46 _ _ (s04 _ _ e)), t04.trans ((ao.tups s46).trans t7), pd7, eh⟩
 rintro σ H3 ⟨o1, o2, o3, o4, o5, o6, o7, o8, en', rfl, s3, t3, pd3, eh⟩
 have e1 := R1.length
 have e2 := R2.length
 rw [List.length_map] at e1 e2
 rw [e1, e2, List.drop_eq_nil_of_le (by rw [List.length_zip]; exact Nat.le_refl _)] at eh
 have hk := hb _ eh
 refine ⟨_, rfl, b, rfl, ⟨_, SqT.of (s3 _ _ hbn)⟩, cY (xs := names.map V.str) (fun i ys H' => H' = H3 /\ Reps H3 ((names.take i).map fun x => plD (plS (aH en') x)) ys) ⟨rfl, by simp [Reps]⟩ (fun i ys H' _ p => by rw [p.1]; exact SqT.of (s3 _ _ hbn)) ?L1 ?_⟩
 case L1 =>
  rintro i ys H' x hx ⟨rfl, Ry⟩
  rw [List.getElem?_map] at hx
  obtain ⟨y, hy, rfl⟩ := Option.map_eq_some_iff.mp hx
  have hi : i < names.length := (List.getElem?_eq_some_iff.mp hy).1
  obtain ⟨z, hz, Rz⟩ := vq pd3 (hk y (List.mem_of_getElem? hy))
  refine cM ⟨_, rfl, _, rfl, d, z, rfl, ?_, ?_, rfl, ?_⟩
  ·rw [<- hz]; exact dC.k (k := Sum.inr y) pd3.at_
  ·rw [Ry.length, List.length_map, List.length_take, sizeLine_eq]; omega
  ·rw [List.take_add_one, hy, List.map_append]
   exact Reps.append Ry (bb Rz)
 rintro ys H' ⟨rfl, Ry⟩ r hr'
 rw [List.length_map, List.take_length] at Ry
 refine ⟨r, _, rfl, .inl ⟨SqL.of ab, fun t ht => ⟨z2, fun m hm => ?_⟩⟩⟩
 have p2 := ac hr' (.lst ys)
 have p3 := ac ht (.tup ys)
 have p4 := ac hm (.tup [.str "bound", .ref t])
 refine q _ _ (s3.trans (p2.trans (p3.trans p4))) ?_
 unfold fH
 rw [eh]
 show Rep _ (.tup [.str "bound", .tup (names.map fun x => plD (plS (aH en') x))]) (.ref m)
 have Rt : Rep (upd (upd (upd H' r (.lst ys)) t (.tup ys)) m (.tup [.str "bound", .ref t])) (.tup (names.map fun x => plD (plS (aH en') x))) (.ref t) := by
  rw [Rep]; exact ⟨t, ys, rfl, p4 _ _ ab, Ry.mono (p2.trans (p3.trans p4))⟩
 rw [Rep]
 exact ⟨m, _, rfl, ab, by simp only [Reps]; exact ⟨_, _, rfl, by simp only [Rep], _, _, rfl, Rt, rfl⟩⟩
end
theorem rg {α : Type} {P : Program} {w : World} {K : PySem.W.Frag} {mg : Str -> Option Value} {base : Heap} {CX : CXT} {k : Nat} {f : Addr} {fd : FuncData} {ps : List Str} {sp : α -> Sp} (h : ∀ x, br P w K mg base CX k f fd ps (sp x)) : br P w K mg base CX k f fd ps (fun vs H Q E => ∃ x, sp x vs H Q E) :=
 ⟨fun vs H Q E ⟨x, q⟩ => (h x).len vs H Q E q, fun A outer s H args us vs Q E hr he hb hv ⟨x, q⟩ => (h x).run A outer s H args us vs Q E hr he hb hv q⟩
def Wd (xs ys : List Kd) : Prop := ∀ q ∈ xs.zip ys, q.1.word = q.2.word
theorem Wd.cons {x y : Kd} {xs ys : List Kd} (h : Wd (x :: xs) (y :: ys)) : x.word = y.word /\ Wd xs ys := ⟨h (x, y) List.mem_cons_self, fun q hq => h q (List.mem_cons_of_mem _ hq)⟩
theorem fY (k : Kd) : ∃ r, k.pts = k :: r := by
 cases k with
 | whole => exact ⟨[], rfl⟩
 | place c ps => exact ⟨[], rfl⟩
 | row c ps k => exact ⟨k.pts, rfl⟩
 | pair a b => exact ⟨a.pts ++ b.pts, rfl⟩
theorem pts_len : ∀ (k j : Kd) (r r' : List Kd), Wd (k.pts ++ r) (j.pts ++ r') -> k.pts.length = j.pts.length /\ Wd r r'
 | .whole, j, r, r', h => by
  obtain ⟨t, e⟩ := fY j
  rw [e] at h
  obtain ⟨hw, h2⟩ := Wd.cons (x := .whole) (y := j) (xs := r) (ys := t ++ r') h
  cases j with
  | whole => cases e; exact ⟨rfl, h2⟩
  | place c ps => exact absurd hw nZ
  | row c ps k => exact absurd hw kS
  | pair a b => exact absurd hw qE
 | .place c ps, j, r, r', h => by
  obtain ⟨t, e⟩ := fY j
  rw [e] at h
  obtain ⟨hw, h2⟩ := Wd.cons (x := .place c ps) (y := j) (xs := r) (ys := t ++ r') h
  cases j with
  | whole => exact absurd hw.symm nZ
  | place c ps => cases e; exact ⟨rfl, h2⟩
  | row c ps k => exact absurd hw nJ
  | pair a b => exact absurd hw kE
 | .row c ps k, j, r, r', h => by
  obtain ⟨t, e⟩ := fY j
  rw [e] at h
  obtain ⟨hw, h2⟩ := Wd.cons (x := .row c ps k) (y := j) (xs := k.pts ++ r) (ys := t ++ r') h
  cases j with
  | whole => exact absurd hw.symm kS
  | place c ps => exact absurd hw.symm nJ
  | row c' ps' j =>
   cases e
   obtain ⟨i1, i2⟩ := pts_len k j r r' h2
   exact ⟨by show (k.pts).length + 1 = (j.pts).length + 1; rw [i1], i2⟩
  | pair a b => exact absurd hw lr
 | .pair a b, j, r, r', h => by
  obtain ⟨t, e⟩ := fY j
  rw [e] at h
  obtain ⟨hw, h2⟩ := Wd.cons (x := .pair a b) (y := j) (xs := (a.pts ++ b.pts) ++ r) (ys := t ++ r') h
  cases j with
  | whole => exact absurd hw.symm qE
  | place c ps => exact absurd hw.symm kE
  | row c ps k => exact absurd hw.symm lr
  | pair a' b' =>
   cases e
   rw [List.append_assoc, List.append_assoc] at h2
   obtain ⟨i1, i2⟩ := pts_len a a' _ _ h2
   obtain ⟨i3, i4⟩ := pts_len b b' _ _ i2
   exact ⟨by show (a.pts ++ b.pts).length + 1 = (a'.pts ++ b'.pts).length + 1; rw [List.length_append, List.length_append, i1, i3], i4⟩
theorem dX : ∀ {X : List (Kd × Kd)} {pls pls' : ca} {cs : List Str}, bF pls X = .inr pls' -> wlk (aA pls) (X.map (·.1)) = some cs -> aA pls' = cs
 | [], pls, pls', cs, h, hw => by cases h; cases hw; rfl
 | q :: X, pls, pls', cs, h, hw => by
  have h' : (match bP pls q.1 q.2 with | .inl d => .inl d | .inr p => bF p X) = (.inr pls' : Dv ⊕ ca) := h
  have hw' : (match q.1.len? with | none => wlk (aA pls) (X.map (·.1)) | some p => if (aF (aA pls) p.2).length <= 1 then wlk (aA pls ++ (aF (aA pls) p.2).map (·.1)) (X.map (·.1)) else none) = some cs := hw
  cases e : bP pls q.1 q.2 with
  | inl d => rw [e] at h'; cases h'
  | inr p =>
   rw [e] at h'
   have h2 : bF p X = .inr pls' := h'
   unfold bP at e
   by_cases wd : q.1.word = q.2.word
   ·rw [if_neg (fun z => z wd)] at e
    cases e1 : q.1.len? with
    | none =>
     rw [e1] at e hw'
     cases e
     exact dX h2 hw'
    | some a =>
     obtain ⟨b, e2⟩ := Kd.some_len wd e1
     rw [e1, e2] at e
     rw [e1] at hw'
     have e : bindL pls a.1 a.2 ⟨b.1, b.2⟩ = .inr p := e
     have hw' : (if (aF (aA pls) a.2).length <= 1 then wlk (aA pls ++ (aF (aA pls) a.2).map (·.1)) (X.map (·.1)) else none) = some cs := hw'
     by_cases l1 : (aF (aA pls) a.2).length <= 1
     ·rw [if_pos l1] at hw'
      unfold bindL at e
      cases ef : aF (aA pls) a.2 with
      | nil =>
       rw [ef] at e hw'
       simp only at e
       rw [List.map_nil, List.append_nil] at hw'
       split at e
       ·cases e; exact dX h2 hw'
       ·cases e
      | cons p0 fr =>
       have : fr = [] := by rw [ef] at l1; cases fr with | nil => rfl | cons y ys => simp at l1
       subst this
       rw [ef] at e hw'
       simp only at e
       split at e
       ·cases e
       ·cases e
        refine dX h2 ?_
        unfold aA at hw' ⊢
        rw [List.map_append]
        exact hw'
     ·rw [if_neg l1] at hw'; cases hw'
   ·rw [if_pos wd] at e; cases e
theorem gO : ∀ {X : List (Kd × Kd)} {pls pls' : ca}, bF pls X = .inr pls' -> ∀ q ∈ X, q.1.word = q.2.word
 | [], _, _, _, q, hq => nomatch hq
 | q0 :: X, pls, pls', h, q, hq => by
  have h' : (match bP pls q0.1 q0.2 with | .inl d => .inl d | .inr p => bF p X) = (.inr pls' : Dv ⊕ ca) := h
  cases e : bP pls q0.1 q0.2 with
  | inl d => rw [e] at h'; cases h'
  | inr p =>
   rw [e] at h'
   have h2 : bF p X = .inr pls' := h'
   rcases List.mem_cons.mp hq with rfl | hq
   ·exact Classical.byContradiction fun wd => by unfold bP at e; rw [if_pos wd] at e; cases e
   ·exact gO h2 q hq
theorem iC : ∀ {ks js : List Kd} {pls pls' : ca} {cs : List Str}, ks.length = js.length -> cV pls (ks.zip js) = .inr pls' -> wlk (aA pls) (ks.flatMap Kd.pts) = some cs -> aA pls' = cs
 | [], [], pls, pls', cs, _, h, hw => by cases h; cases hw; rfl
 | [], _ :: _, _, _, _, l, _, _ => nomatch l
 | _ :: _, [], _, _, _, l, _, _ => nomatch l
 | k :: ks, j :: js, pls, pls', cs, l, h, hw => by
  have h' : (match bF pls (k.pts.zip j.pts) with | .inl d => .inl d | .inr p => cV p (ks.zip js)) = (.inr pls' : Dv ⊕ ca) := h
  cases e : bF pls (k.pts.zip j.pts) with
  | inl d => rw [e] at h'; cases h'
  | inr p =>
   rw [e] at h'
   have h2 : cV p (ks.zip js) = .inr pls' := h'
   have wd : Wd (k.pts ++ []) (j.pts ++ []) := by rw [List.append_nil, List.append_nil]; exact gO e
   obtain ⟨ll, _⟩ := pts_len k j [] [] wd
   rw [List.flatMap_cons, gf] at hw
   cases e2 : wlk (aA pls) k.pts with
   | none => rw [e2] at hw; cases hw
   | some c1 =>
    rw [e2] at hw
    have hw : wlk c1 (ks.flatMap Kd.pts) = some cs := hw
    have ek := dX (cs := c1) e (by rw [List.map_fst_zip (Nat.le_of_eq ll)]; exact e2)
    exact iC (by simpa using l) h2 (by rw [ek]; exact hw)
abbrev dS : Stmt := top 35
def UN : List Str := [Str.ofString "u", Str.ofString "v", Str.ofString "m", Str.ofString "q"]
def sk : Sp := fun vs H Q E => ∃ fn, ie fn UN 31 vs H Q E
def kj : Sp := fun vs H Q E => ∃ fn, kC fn UN vs H Q E
def kO (K : PySem.W.Frag) : Sp := fun vs H Q _ => ∃ (a : Addr) (ns : List Int), vs = [.ref a] /\ SqL K H a (ns.map V.int) /\ ns.length <= 63 /\ ∀ H', ao H H' -> Q (.bl true) H'
def sg (i : Nat) : Str := ⟨#[(Str.ofString "mnxz").cps.getD i 0]⟩
def fl4 (r : Str) : List Str := (List.range 4).map fun i => r ++ sg i
theorem uO {r s t : Str} (h : r ++ s = r ++ t) : s = t := by
 have e : (r ++ s).cps = (r ++ t).cps := by rw [h]
 have e' : r.cps ++ s.cps = r.cps ++ t.cps := e
 have : s.cps = t.cps := by
  apply Array.ext'
  have e2 := congrArg Array.toList e'
  rw [Array.toList_append, Array.toList_append] at e2
  exact List.append_cancel_left e2
 cases s; cases t; simp only at this; rw [this]
theorem vI (r : Str) : (fl4 r).Nodup := by
 have h : ∀ i, i < 4 -> ∀ j, j < 4 -> sg i = sg j -> i = j := by decide +kernel
 unfold fl4
 refine List.Pairwise.map _ (R := fun i j => i ∈ List.range 4 /\ j ∈ List.range 4 /\ i ≠ j) (fun i j ⟨hi, hj, hne⟩ e => hne (h i (List.mem_range.mp hi) j (List.mem_range.mp hj) (uO e))) ?_
 decide
theorem vd (c : Nat) {n : Int} (h0 : 0 <= n) (h3 : n < 3) : (Txt.mul ⟨#[c]⟩ n).length <= 2 := by
 rcases (by omega : n = 0 \/ n = 1 \/ n = 2) with rfl | rfl | rfl
 ·exact Nat.le_of_ble_eq_true rfl
 ·exact Nat.le_of_ble_eq_true rfl
 ·exact Nat.le_of_ble_eq_true rfl
theorem wn {i : Int} (h0 : 0 <= i) (h1 : i < 8) : ∃ c, atI (Str.ofString "abcdefgh").cps.toList i = some c := by
 have h : ∀ j : Nat, j < 8 -> (Str.ofString "abcdefgh").cps.toList[j]?.isSome = true := by decide +kernel
 obtain ⟨c, hc⟩ := Option.isSome_iff_exists.mp (h i.toNat (by omega))
 have := ah hc
 rw [show ((i.toNat : Nat) : Int) = i by omega] at this
 exact ⟨c, this⟩
theorem nR : ∀ {ks : List Kd} {bs cs : List Str}, wlk bs ks = some cs -> (∀ x ∈ bs, x ∈ cs) /\ ∀ k ∈ ks, ∀ p, k.len? = some p -> ∀ q ∈ p.2, q.1 ∈ cs
 | [], bs, cs, h => by cases h; exact ⟨fun x hx => hx, fun k hk => nomatch hk⟩
 | k :: ks, bs, cs, h => by
  have h' : (match k.len? with | none => wlk bs ks | some p => if (aF bs p.2).length <= 1 then wlk (bs ++ (aF bs p.2).map (·.1)) ks else none) = some cs := h
  cases e : k.len? with
  | none =>
   rw [e] at h'
   obtain ⟨i1, i2⟩ := nR (ks := ks) h'
   refine ⟨i1, fun j hj p hp => ?_⟩
   rcases List.mem_cons.mp hj with rfl | hj
   ·rw [e] at hp; cases hp
   ·exact i2 j hj p hp
  | some p =>
   rw [e] at h'
   have h' : (if (aF bs p.2).length <= 1 then wlk (bs ++ (aF bs p.2).map (·.1)) ks else none) = some cs := h'
   split at h'
   ·obtain ⟨i1, i2⟩ := nR h'
    refine ⟨fun x hx => i1 x (List.mem_append_left _ hx), fun j hj r hr q hq => ?_⟩
    rcases List.mem_cons.mp hj with rfl | hj
    ·rw [e] at hr
     cases hr
     by_cases hb : q.1 ∈ bs
     ·exact i1 _ (List.mem_append_left _ hb)
     ·exact i1 _ (List.mem_append_right _ (List.mem_map.mpr ⟨q, List.mem_filter.mpr ⟨hq, by simp [hb]⟩, rfl⟩))
    ·exact i2 j hj r hr q hq
   ·cases h'
theorem dU {P : Int -> List Pr -> Prop} : ∀ {k : Kd}, (∀ j ∈ k.pts, ∀ c ps, j.len? = some (c, ps) -> P c ps) -> k.All P
 | .whole, _ => trivial
 | .place c ps, h => h _ (List.mem_singleton.mpr rfl) c ps rfl
 | .row c ps k, h => ⟨h _ List.mem_cons_self c ps rfl, dU fun j hj => h j (List.mem_cons_of_mem _ hj)⟩
 | .pair a b, h => ⟨dU fun j hj => h j (List.mem_cons_of_mem _ (List.mem_append_left _ hj)), dU fun j hj => h j (List.mem_cons_of_mem _ (List.mem_append_right _ hj))⟩
theorem vP {al cs : List Str} {ks : List Kd} (h : wlk [] (ks.flatMap Kd.pts) = some cs) {k : Kd} (hk : k ∈ ks) (a : k.All (Ld al)) : k.All (Ld cs) := by
 refine dU fun j hj c ps e => ?_
 have l := dm a j hj c ps e
 exact ⟨l.c0, l.c1, l.can, l.len, fun p hp => ⟨(l.le p hp).1, (nR h).2 j (List.mem_flatMap.mpr ⟨k, hk, hj⟩) (c, ps) e p hp⟩⟩
theorem Ld.pm {cs : List Str} {c : Int} {ps : List Pr} (l : Ld cs c ps) : Pm cs c ps := ⟨l.can, l.c0, by have := l.c1; omega, by have := l.len; omega, fun q hq => ⟨by have := (l.le q hq).1; omega, (l.le q hq).2⟩⟩
theorem me {H : Hp} : ∀ {ds : List Dv} {vs : List V} {j : Nat} {d : Dv} {v : V}, Reps H ds vs -> Rep H d v -> Reps H (ds.set j d) (vs.set j v)
 | [], vs, j, d, v, h, r => by simp only [Reps] at h; subst h; simp only [List.set_nil, Reps]
 | e :: ds, vs, 0, d, v, h, r => by
  simp only [Reps] at h
  obtain ⟨x, r', rfl, h1, h2⟩ := h
  simp only [List.set_cons_zero, Reps]
  exact ⟨v, r', rfl, r, h2⟩
 | e :: ds, vs, j + 1, d, v, h, r => by
  simp only [Reps] at h
  obtain ⟨x, r', rfl, h1, h2⟩ := h
  simp only [List.set_cons_succ, Reps]
  exact ⟨x, _, rfl, h1, me h2 r⟩
theorem Dw.gd {c : Int} {ps : List Pr} (h : Dw [Str.ofString "u", Str.ofString "v", Str.ofString "m"] c ps) : Gd UN ⟨c, ps⟩ /\ ∀ q ∈ ps, q.2 <= 3 /\ q.1 ∈ UN := by
 have a : ∀ q ∈ ps, q.2 <= 3 /\ q.1 ∈ UN := fun q hq => ⟨(h.all q hq).1, List.Sublist.subset (List.sublist_append_left [Str.ofString "u", Str.ofString "v", Str.ofString "m"] [Str.ofString "q"]) (h.all q hq).2⟩
 exact ⟨⟨h.can, h.c0, by have := h.c1; show c <= 10 ^ 6; omega, fun q hq => ⟨by have := (a q hq).1; omega, (a q hq).2⟩⟩, a⟩
theorem jx {H : Hp} : ∀ ns : List Str, Reps H (ns.map Dv.str) (ns.map V.str)
 | [] => by simp [Reps]
 | y :: ys => by simp only [List.map_cons, Reps]; exact ⟨_, _, rfl, by simp only [Rep], jx ys⟩
def kb (d : Dv) : Prop := ∃ ds, d = .tup ds /\ L2.Pl 6 (.tup ds)
theorem rV (p : Pl) : L2.Pl 5 (plD p) := (bQ p.c p.ps).up (by decide)
theorem nn (w : Str) (a b : Pl) : kb (.tup [.str w, plD a, plD b]) := ⟨_, rfl, .tup fun d hd => by
 rcases List.mem_cons.mp hd with rfl | hd
 ·exact .str
 rcases List.mem_cons.mp hd with rfl | hd
 ·exact rV a
 ·rw [List.mem_singleton.mp hd]; exact rV b⟩
theorem tN {pls : ca} {c : Int} {ps : List Pr} {g : Pl} {d : Dv} (h : bindL pls c ps g = .inl d) : kb d := by
 unfold bindL at h
 split at h <;> split at h <;> cases h
 ·exact nn _ _ _
 ·exact nn _ _ _
theorem sV {pls : ca} {x y : Kd} {d : Dv} (h : bP pls x y = .inl d) : kb d := by
 unfold bP at h
 split at h
 ·cases h
  exact ⟨_, rfl, .tup fun d hd => by rw [List.mem_singleton.mp hd]; exact .str⟩
 ·split at h
  ·exact tN h
  ·cases h
theorem mv : ∀ {X : List (Kd × Kd)} {pls : ca} {d : Dv}, bF pls X = .inl d -> kb d
 | [], _, _, h => by cases h
 | q :: X, pls, d, h => by
  have h' : (match bP pls q.1 q.2 with | .inl d => .inl d | .inr p => bF p X) = (.inl d : Dv ⊕ ca) := h
  cases e : bP pls q.1 q.2 with
  | inl d' => rw [e] at h'; cases h'; exact sV e
  | inr p => rw [e] at h'; exact mv (X := X) h'
theorem mT : ∀ {X : List (Kd × Kd)} {pls : ca} {d : Dv}, cV pls X = .inl d -> kb d
 | [], _, _, h => by cases h
 | q :: X, pls, d, h => by
  have h' : (match bF pls (q.1.pts.zip q.2.pts) with | .inl d => .inl d | .inr p => cV p X) = (.inl d : Dv ⊕ ca) := h
  cases e : bF pls (q.1.pts.zip q.2.pts) with
  | inl d' => rw [e] at h'; cases h'; exact mv e
  | inr p => rw [e] at h'; exact mT (X := X) h'
theorem qS (names : List Str) (l : List (Kd × Kd)) : kb (fH names l) := by
 unfold fH
 split
 ·next d e => exact mT e
 ·refine ⟨_, rfl, .tup fun d hd => ?_⟩
  rcases List.mem_cons.mp hd with rfl | hd
  ·exact .str
  ·rw [List.mem_singleton.mp hd]
   exact (L2.Pl.tup (n := 4) fun d hd => by obtain ⟨y, _, rfl⟩ := List.mem_map.mp hd; exact (bQ _ _).up (by decide)).up (by decide)
theorem sW {ks : List Kd} (h : ∀ k ∈ ks, k.size <= 100) : ∀ d ∈ ks.map Kd.dv, L2.Pl 103 d := fun d hd => by
 obtain ⟨k, hk, rfl⟩ := List.mem_map.mp hd
 exact k.pl.up (by have := h k hk; omega)
section
variable {P : Program} {w : World} {K : PySem.W.Frag} {mg : Str -> Option Value} {base : Heap}
theorem nc : aW ["_law_script", "_law_first", "_law_letter", "_law_free", "_law_met", "_law_params", "_law_many", "_law_k", "_law_names", "_law_places", "_law_name", "_law_given_here", "_law_at", "_law_handed", "_law_found"] ["_law_script"] (aj dS) := ⟨rfl, rfl, rfl, by decide +kernel, rfl, by decide +kernel, by decide +kernel⟩
theorem qY {f : Addr} {fd : FuncData} {k0 : Nat} (F : Fun K "_law_right" "_law_right" dS f fd) (T : Txt K mg) (D_law_mixed : Def P w K mg base k0 "_law_mixed" ["_law_cell", "_law_k"] dY) (D_law_cell_at : Def P w K mg base k0 "_law_cell_at" ["_law_script", "_law_k"] (oe K)) (D_law_kind : Def P w K mg base k0 "_law_kind" ["_law_cells", "_law_free", "_law_met", "_law_room"] (iU K 5)) (D_law_drawn : Def P w K mg base k0 "_law_drawn" ["_law_cell", "_law_names"] kR)
  (D_law_given : Def P w K mg base k0 "_law_given" ["_law_kind_here", "_law_places"] sk) (D_law_spoilt : Def P w K mg base k0 "_law_spoilt" ["_law_kind_here", "_law_cell"] (eG UN 31)) (D_law_due : Def P w K mg base k0 "_law_due" ["_law_names", "_law_params", "_law_given_here"] kj) (Dbound : Def P w K mg base k0 "bound" ["names", "params", "given"] kj) : br P w K mg base CX0 (k0 + 1) f fd ["_law_script"] (kO K) := by
 have nd : (["_law_script", "_law_first", "_law_letter", "_law_free", "_law_met", "_law_params", "_law_many", "_law_k", "_law_names", "_law_places", "_law_name", "_law_given_here", "_law_at", "_law_handed", "_law_found"] : List Str).Nodup := nc.nd
 refine F.ok nc (fun vs H Q E h => ?_) (fun cdv A outer s H vs Q E hr h => ?_)
 ·obtain ⟨a, ns, rfl, _⟩ := h
  rfl
 obtain ⟨a, ns, rfl, hn, n14, q⟩ := h
 have hu := cW hr
 have hu9 := iX hr
 have huL : (A.deeper (PyProof.Rows.envOfC (Str.ofString "_law_right") (aj dS) s.heap.objs.size f cdv)).units < cLine := by omega
 refine ⟨_, (@ag _ _ _ _ _ (@aM _ _ (1) _ _ _ _ nd rfl (Or.inr rfl) (@aI _ _ _ _ _ _ _ _ _ _ D_law_mixed hr rfl (@aa _ _ _ _ _ (@aI _ _ _ _ _ _ _ _ _ _ D_law_cell_at hr rfl (@aa _ _ _ _ _ (@pv _ 0 _ _ (by rfl) (by trivial) (by decide) (by decide)) (@aa _ _ _ _ _ (@ad _ _ _ _) (@ae _) (by rfl)) (by rfl)) (by decide) (by rfl) (by rfl)) (@aa _ _ _ _ _ (@ad _ _ _ _) (@ae _) (by rfl)) (by rfl)) (by decide) (by rfl) (by rfl)) (by rfl) (by trivial)) (@ag _ _ _ _ _ (@aM _ _ (2) _ _ _ _ nd rfl (Or.inr rfl) (@ar _ _ _ _ _ _ _ ww (@aY _ _ _ _) (@au _ _ _ _ _ _ _ _ bh (@pv _ 1 _ _ (by rfl) (by trivial) (by decide) (by decide)) (@ad _ _ _ _)) (fun _ _ => rfl)) (by rfl) (by trivial)) (@ag _ _ _ _ _ (@aM _ _ (3) _ _ _ _ nd rfl (Or.inl rfl) (@bY _ _ _ _ _ _ _ _ _ _ fi (@dq _ _ (["_law_sign"]) ([1, 2]) _ _ _ _ _ _ _ _ _ (@wj _ _ _ _ (@aY _ _ _ _)) (.of rfl) rfl (fun _ _ _ => aG (i := 0) (bL (l := ["_law_sign", "_law_first", "_law_letter"]) ((by decide +kernel)) rfl) rfl (Or.inl rfl)) (bK (by decide)) (fun _ _ _ => (@cu _)) (fun _ _ _ => (@au _ _ _ _ _ _ _ _ nX (@au _ _ _ _ _ _ _ _ oH (@pv _ 2 _ _ (by rfl) (by trivial) (by decide) (by decide)) (@au _ _ _ _ _ _ _ _ bh (@au _ _ _ _ _ _ _ _ bv (@pv _ 1 _ _ (by rfl) (by trivial) (by decide) (by decide)) (@ad _ _ _ _)) (@ad _ _ _ _))) (@pv _ 0 _ _ (by rfl) (by trivial) (by decide) (by decide)))) (by intro _; rfl)) (@dh _) (@bM _ _ _ (@au _ _ _ _ _ _ _ _ bw (@ad _ _ _ _) (@au _ _ _ _ _ _ _ _ bh (@au _ _ _ _ _ _ _ _ bv (@pv _ 1 _ _ (by rfl) (by trivial) (by decide) (by decide)) (@ad _ _ _ _)) (@ad _ _ _ _))))) (by rfl) (by trivial)) (@ag _ _ _ _ _ (@aM _ _ (4) _ _ _ _ nd rfl (Or.inl rfl) (@bC _ _ _ _ (@ae _)) (by rfl) (by trivial)) (@ag _ _ _ _ _ (@aM _ _ (5) _ _ _ _ nd rfl (Or.inl rfl) (@bC _ _ _ _ (@ae _)) (by rfl) (by trivial)) (@ag _ _ _ _ _ (@aM _ _ (6) _ _ _ _ nd rfl (Or.inl rfl) (@au _ _ _ _ _ _ _ _ bw (@ad _ _ _ _) (@au _ _ _ _ _ _ _ _ bh (@au _ _ _ _ _ _ _ _ bv (@pv _ 1 _ _ (by rfl) (by trivial) (by decide) (by decide)) (@ad _ _ _ _)) (@ad _ _ _ _))) (by rfl) (by trivial)) (@ag _ _ _ _ _ (@cv _ _ _ _ _ _ _ _ PassesOwn.never rfl (@gF _ _ _ _ _ _ rfl T.range (@aa _ _ _ _ _ (@pv _ 6 _ _ (by rfl) (by trivial) (by decide) (by decide)) (@ae _) (by rfl)) (by rfl)) (@aG _ _ (7) _ nd rfl (Or.inl rfl) (by trivial)) (@ak _ _ _ (@fZ _ _ _ _ (@mB _ _ _ _ _ _ _ _ _ _ _ _ PySem.F.plainAttrs_list PySem.F.slot_list_append PySem.F.type_list_append ff (@pv _ 5 _ _ (by rfl) (by trivial) (by decide) (by decide)) (@aa _ _ _ _ _ (@aI _ _ _ _ _ _ _ _ _ _ D_law_kind hr rfl (@aa _ _ _ _ _ (@rR _ _ _ _ _ _ _ _ _ (@pv _ 0 _ _ (by rfl) (by trivial) (by decide) (by decide)) (@bM _ _ _ (@au _ _ _ _ _ _ _ _ bw (@ad _ _ _ _) (@pv _ 7 _ _ (by rfl) (by trivial) (by decide) (by decide)))) (@bM _ _ _ (@pv _ 6 _ _ (by rfl) (by trivial) (by decide) (by decide)))) (@aa _ _ _ _ _ (@pv _ 3 _ _ (by rfl) (by trivial) (by decide) (by decide)) (@aa _ _ _ _ _ (@pv _ 4 _ _ (by rfl) (by trivial) (by decide) (by decide)) (@aa _ _ _ _ _ (@ad _ _ _ _) (@ae _) (by rfl)) (by rfl)) (by rfl)) (by rfl)) (by decide) (by rfl) (by rfl)) (@ae _) (by rfl)) (by rfl) (by rfl) (by rfl) (by rfl) (by rfl)) (by rfl))) (by intro _; rfl)) (@ag _ _ _ _ _ (@aM _ _ (8) _ _ _ _ nd rfl (Or.inl rfl) (@aZ _ _ _ _ _ _ _ _ _ ba rfl T.tuple (by decide +kernel) (@aa _ _ _ _ _ (@pv _ 4 _ _ (by rfl) (by trivial) (by decide) (by decide)) (@ae _) (by rfl)) (by decide) (by decide) (by rfl) (by rfl)) (by rfl) (by trivial)) (@ag _ _ _ _ _ (@bi _ _ _ _ _ _ _ _ (@aB _ _ _ _ _ _ _ _ bH (@au _ _ _ _ _ _ _ _ bh (@au _ _ _ _ _ _ _ _ bv (@pv _ 1 _ _ (by rfl) (by trivial) (by decide) (by decide)) (@ad _ _ _ _)) (@ad _ _ _ _)) (@ad _ _ _ _) (aO _)) (@ak _ _ _ (@aM _ _ (8) _ _ _ _ nd rfl (Or.inl rfl) (@qH _ _ _ _ _ _ _ rfl T.tuple rfl T.reversed rfl (@pv _ 4 _ _ (by rfl) (by trivial) (by decide) (by decide)) (by rfl) (by rfl)) (by rfl) (by trivial))) (@aS _)) (@ag _ _ _ _ _ (@aM _ _ (9) _ _ _ _ nd rfl (Or.inr rfl) (@dI _ _) (by rfl) (by trivial)) (@ag _ _ _ _ _ (@cv _ _ _ _ _ _ _ _ PassesOwn.never rfl (@rF _ _ _ _ _ _ _ _ rfl T.enumerate (@aa _ _ _ _ _ (@pv _ 8 _ _ (by rfl) (by trivial) (by decide) (by decide)) (@ae _) (by rfl)) (by rfl)) (@bT _ _ _ _ _ _ rfl (@aQ _ _ _ _ _ (@aG _ _ (7) _ nd rfl (Or.inl rfl) (by trivial)) (@aQ _ _ _ _ _ (@aG _ _ (10) _ nd rfl (Or.inl rfl) (by trivial)) (@bA _) (by rfl)) (by rfl)) (by rfl) (by rfl)) (@ak _ _ _ (@dg _ _ _ _ _ _ _ _ _ hu (@pv _ 9 _ _ (by rfl) (by trivial) (by decide) (by decide)) (@pv _ 10 _ _ (by rfl) (by trivial) (by decide) (by decide)) (@aI _ _ _ _ _ _ _ _ _ _ D_law_drawn hr rfl (@aa _ _ _ _ _ (@au _ _ _ _ _ _ _ _ bw (@au _ _ _ _ _ _ _ _ bv (@aI _ _ _ _ _ _ _ _ _ _ D_law_cell_at hr rfl (@aa _ _ _ _ _ (@pv _ 0 _ _ (by rfl) (by trivial) (by decide) (by decide)) (@aa _ _ _ _ _ (@ad _ _ _ _) (@ae _) (by rfl)) (by rfl)) (by decide) (by rfl) (by rfl)) (@au _ _ _ _ _ _ _ _ bw (@pv _ 7 _ _ (by rfl) (by trivial) (by decide) (by decide)) (@ad _ _ _ _))) (@pv _ 7 _ _ (by rfl) (by trivial) (by decide) (by decide))) (@aa _ _ _ _ _ (@bC _ _ _ _ (@aa _ _ _ _ _ (@aY _ _ _ _) (@aa _ _ _ _ _ (@aY _ _ _ _) (@aa _ _ _ _ _ (@aY _ _ _ _) (@ae _) (by rfl)) (by rfl)) (by rfl))) (@ae _) (by rfl)) (by rfl)) (by decide) (by rfl) (by rfl)) rfl)) (by intro _; rfl)) (@ag _ _ _ _ _ (@oO _ _ (["_law_kind_here"]) ([9]) _ _ _ _ _ _ _ _ _ _ _ (11) _ nd rfl rfl (@io _ _ _ _ (@pv _ 5 _ _ (by rfl) (by trivial) (by decide) (by decide))) (.of rfl) rfl (fun _ _ _ => aG (i := 0) (bL (l := ["_law_kind_here", "_law_places"]) ((by decide +kernel)) rfl) rfl (Or.inl rfl)) (bK (by decide)) (fun _ _ _ => (@cu _)) (fun _ _ _ => (@aI _ _ _ _ _ _ _ _ _ _ D_law_given hr rfl (@aa _ _ _ _ _ (@pv _ 0 _ _ (by rfl) (by trivial) (by decide) (by decide)) (@aa _ _ _ _ _ (@pv _ 1 _ _ (by rfl) (by trivial) (by decide) (by decide)) (@ae _) (by rfl)) (by rfl)) (by decide) (by rfl) (by rfl))) (by rfl) (by intro _; rfl)) (@ag _ _ _ _ _ (@bi _ _ _ _ _ _ _ _ (@aB _ _ _ _ _ _ _ _ bH (@au _ _ _ _ _ _ _ _ bh (@au _ _ _ _ _ _ _ _ bv (@pv _ 1 _ _ (by rfl) (by trivial) (by decide) (by decide)) (@ad _ _ _ _)) (@ad _ _ _ _)) (@ad _ _ _ _) (aO _)) (@ag _ _ _ _ _ (@aM _ _ (12) _ _ _ _ nd rfl (Or.inl rfl) (@au _ _ _ _ _ _ _ _ bh (@au _ _ _ _ _ _ _ _ bv (@pv _ 1 _ _ (by rfl) (by trivial) (by decide) (by decide)) (@ad _ _ _ _)) (@pv _ 6 _ _ (by rfl) (by trivial) (by decide) (by decide))) (by rfl) (by trivial)) (@ak _ _ _ (@rB _ _ _ _ _ _ (@aI _ _ _ _ _ _ _ _ _ _ D_law_spoilt hr rfl (@aa _ _ _ _ _ (@ar _ _ _ _ _ _ _ bJ (@pv _ 11 _ _ (by rfl) (by trivial) (by decide) (by decide)) (@pv _ 12 _ _ (by rfl) (by trivial) (by decide) (by decide)) (fun _ _ => rfl)) (@aa _ _ _ _ _ (@au _ _ _ _ _ _ _ _ bw (@au _ _ _ _ _ _ _ _ bh (@aI _ _ _ _ _ _ _ _ _ _ D_law_cell_at hr rfl (@aa _ _ _ _ _ (@pv _ 0 _ _ (by rfl) (by trivial) (by decide) (by decide)) (@aa _ _ _ _ _ (@ad _ _ _ _) (@ae _) (by rfl)) (by rfl)) (by decide) (by rfl) (by rfl)) (@au _ _ _ _ _ _ _ _ lY (@ad _ _ _ _) (@ad _ _ _ _))) (@au _ _ _ _ _ _ _ _ fI (@ad _ _ _ _) (@pv _ 1 _ _ (by rfl) (by trivial) (by decide) (by decide)))) (@ae _) (by rfl)) (by rfl)) (by decide) (by rfl) (by rfl)) (@wC _ _ _ _ _ _ _ (@pv _ 11 _ _ (by rfl) (by trivial) (by decide) (by decide)) (@pv _ 12 _ _ (by rfl) (by trivial) (by decide) (by decide)) rJ (by intro _; rfl)) (by rfl) (by rfl) (by rfl)))) (@aS _)) (@ag _ _ _ _ _ (@aM _ _ (13) _ _ _ _ nd rfl (Or.inl rfl) (@bC _ _ _ _ (@aa _ _ _ _ _ (@aZ _ _ _ _ _ _ _ _ _ fO rfl T.list (by decide +kernel) (@aa _ _ _ _ _ (@pv _ 5 _ _ (by rfl) (by trivial) (by decide) (by decide)) (@ae _) (by rfl)) (by decide) (by decide) (by rfl) (by rfl)) (@aa _ _ _ _ _ (@aZ _ _ _ _ _ _ _ _ _ fO rfl T.list (by decide +kernel) (@aa _ _ _ _ _ (@pv _ 11 _ _ (by rfl) (by trivial) (by decide) (by decide)) (@ae _) (by rfl)) (by decide) (by decide) (by rfl) (by rfl)) (@ae _) (by rfl)) (by rfl))) (by rfl) (by trivial)) (@ag _ _ _ _ _ (@aM _ _ (14) _ _ _ _ nd rfl (Or.inl rfl) (@aI _ _ _ _ _ _ _ _ _ _ Dbound hr rfl (@aa _ _ _ _ _ (@pv _ 8 _ _ (by rfl) (by trivial) (by decide) (by decide)) (@aa _ _ _ _ _ (@ar _ _ _ _ _ _ _ bJ (@pv _ 13 _ _ (by rfl) (by trivial) (by decide) (by decide)) (@ad _ _ _ _) (fun _ _ => rfl)) (@aa _ _ _ _ _ (@ar _ _ _ _ _ _ _ bJ (@pv _ 13 _ _ (by rfl) (by trivial) (by decide) (by decide)) (@ad _ _ _ _) (fun _ _ => rfl)) (@ae _) (by rfl)) (by rfl)) (by rfl)) (by decide) (by rfl) (by rfl)) (by rfl) (by trivial)) (@ak _ _ _ (@aE _ _ _ _ (@rk _ _ _ _ _ _ _ (@kr _ _ _ _ _ _ _ _ (rK hu9) (@pv _ 14 _ _ (by rfl) (by trivial) (by decide) (by decide)) (@aI _ _ _ _ _ _ _ _ _ _ D_law_due hr rfl (@aa _ _ _ _ _ (@pv _ 8 _ _ (by rfl) (by trivial) (by decide) (by decide)) (@aa _ _ _ _ _ (@pv _ 5 _ _ (by rfl) (by trivial) (by decide) (by decide)) (@aa _ _ _ _ _ (@pv _ 11 _ _ (by rfl) (by trivial) (by decide) (by decide)) (@ae _) (by rfl)) (by rfl)) (by rfl)) (by decide) (by rfl) (by rfl)) (aO _)) (@rk _ _ _ _ _ _ _ (@bt _ _ _ _ _ _ _ _ _ tf rfl T.isinstance (by decide +kernel) (@aa _ _ _ _ _ (@pv _ 14 _ _ (by rfl) (by trivial) (by decide) (by decide)) (@aa _ _ _ _ _ (@uV _ _ (.ty "tuple") _ _ rfl T.tuple (by decide +kernel) rfl (by decide) (by decide)) (@ae _) (by rfl)) (by rfl)) (by decide) (by decide) (by rfl) (by rfl)) (@vJ _ _ _ _ _ (@kr _ _ _ _ _ _ _ _ (uU hu9) (@pv _ 13 _ _ (by rfl) (by trivial) (by decide) (by decide)) (@bC _ _ _ _ (@aa _ _ _ _ _ (@pv _ 5 _ _ (by rfl) (by trivial) (by decide) (by decide)) (@aa _ _ _ _ _ (@pv _ 11 _ _ (by rfl) (by trivial) (by decide) (by decide)) (@ae _) (by rfl)) (by rfl))) (aO _)))))))))))))))))))))), ?_⟩
 refine ⟨_, rfl, a, ns, 0, rfl, hn, by omega, by decide, fun c0 => ⟨c0, 0, rfl, fun x x0 => ?_⟩⟩
 refine gnm ?_
 dsimp only
 obtain ⟨e0, e1⟩ := mod_lt (a := x) 8 (by decide)
 obtain ⟨ch, hch⟩ := wn e0 e1
 refine ⟨_, rfl, _, _, rfl, rfl, (by show (0 : Int) < 8; decide), _, _, ch, rfl, rfl, (by rw [sizeLine_eq]; decide +kernel), hch, ?_⟩
 refine gnm ?_
 dsimp only
 obtain ⟨g0, g1⟩ := mod_lt (a := x / 8) 3 (by decide)
 obtain ⟨n0, n1⟩ := mod_lt (a := x / 24) 4 (by decide)
 obtain ⟨y0, y1⟩ := mod_lt (a := x / 96) 4 (by decide)
 have ml := vd ch g0 g1
 refine ⟨_, rfl, oh (F := fun i => .str (Txt.mul ⟨#[ch]⟩ (x / 8 % 3) ++ sg i)) (fun i ys hi hy => cM ⟨_, rfl, _, rfl, _, _, rfl, rfl, ⟨by decide, by decide⟩, _, _, rfl, rfl, (by show (0 : Int) < 3; decide), _, _, rfl, rfl, (by show (1 : Nat) <= 1000; decide), g0, by omega, _, rfl, _, _, rfl, rfl, ?_, by rw [hy, sizeLine_eq]; have : i < 4 := hi; omega, rfl, rfl⟩) ?_⟩
 ·have : (sg i).length = 1 := rfl
  have e : (⟨#[(Str.ofString "mnxz").cps.getD i 0]⟩ : Str).length = 1 := rfl
  rw [sizeLine_eq]; omega
 intro l0 hl0
 have ef4 : (List.range (Str.ofString "mnxz").cps.size).map (fun i => V.str (Txt.mul ⟨#[ch]⟩ (x / 8 % 3) ++ sg i)) = (fl4 (Txt.mul ⟨#[ch]⟩ (x / 8 % 3))).map V.str := by
  rw [show (Str.ofString "mnxz").cps.size = 4 by decide +kernel]; unfold fl4; rw [List.map_map]; rfl
 rw [ef4]
 have f4n := vI (Txt.mul ⟨#[ch]⟩ (x / 8 % 3))
 have f4l : (fl4 (Txt.mul ⟨#[ch]⟩ (x / 8 % 3))).length = 4 := by unfold fl4; rw [List.length_map, List.length_range]
 generalize fl4 (Txt.mul ⟨#[ch]⟩ (x / 8 % 3)) = fl at f4n f4l ⊢
 have s0 : ao H (upd H l0 (.lst (fl.map V.str))) := ac hl0 _
 have hl0' : upd H l0 (.lst (fl.map V.str)) l0 = some (.lst (fl.map V.str)) := ab
 generalize upd H l0 (.lst (fl.map V.str)) = H0 at s0 hl0' ⊢
 dsimp only [dQ]
 refine ⟨_, rfl, _, _, rfl, rfl, ⟨by decide, by decide⟩, _, _, rfl, rfl, (by show (0 : Int) < 4; decide), _, _, rfl, rfl, _, rfl, l0, _, rfl, SqL.of hl0', fun fa hfa => ?_⟩
 have ecut : cE (fl.map V.str) none (some (1 + x / 24 % 4)) = (fl.take (1 + x / 24 % 4).toNat).map V.str := by
  have := wD (fl.map V.str) (1 + x / 24 % 4).toNat (by rw [List.length_map]; omega)
  rw [show (((1 + x / 24 % 4).toNat : Nat) : Int) = 1 + x / 24 % 4 by omega] at this
  rw [this, List.map_take]
 rw [ecut]
 have hfr : H fa = none := s0.free hfa
 obtain ⟨al, eal, alnd, al4⟩ : ∃ al : List Str, fl.take (1 + x / 24 % 4).toNat = al.reverse /\ al.Nodup /\ al.length <= 4 := ⟨(fl.take (1 + x / 24 % 4).toNat).reverse, (List.reverse_reverse _).symm, (List.reverse_perm _).nodup_iff.mpr ((List.take_sublist _ _).nodup f4n), by rw [List.length_reverse, List.length_take]; omega⟩
 rw [eal]
 have s1 : ao H (upd H0 fa (.lst (al.reverse.map V.str))) := s0.trans (ac hfa _)
 have f1 : upd H0 fa (.lst (al.reverse.map V.str)) fa = some (.lst (al.reverse.map V.str)) := ab
 generalize upd H0 fa (.lst (al.reverse.map V.str)) = H1 at s1 f1 ⊢
 refine gnm ?_
 try dsimp only
 refine ⟨Nat.zero_le _, fun ma hma => ?_⟩
 refine gnm ?_
 try dsimp only
 have s2 := ac hma (.lst [])
 have m2 : upd H1 ma (.lst []) ma = some (.lst []) := ab
 have f2 := s2 _ _ f1
 have fm : fa ≠ ma := ai f1 hma
 generalize upd H1 ma (.lst []) = H2 at s2 m2 f2 ⊢
 refine ⟨Nat.zero_le _, fun pa hpa => ?_⟩
 refine gnm ?_
 try dsimp only
 have s3 := ac hpa (.lst [])
 have p3 : upd H2 pa (.lst []) pa = some (.lst []) := ab
 have f3 := s3 _ _ f2
 have m3 := s3 _ _ m2
 have fp : fa ≠ pa := ai f2 hpa
 have mp : ma ≠ pa := ai m2 hpa
 have hmr : H ma = none := s1.free hma
 have hpr : H pa = none := (s1.trans s2).free hpa
 have s03 : ao H (upd H2 pa (.lst [])) := s1.trans (s2.trans s3)
 generalize upd H2 pa (.lst []) = H3 at s3 p3 f3 m3 s03 ⊢
 refine ⟨_, rfl, _, _, rfl, rfl, ⟨by decide, by decide⟩, _, _, rfl, rfl, (by show (0 : Int) < 4; decide), _, _, rfl, rfl, ?_⟩
 refine gnm ?_
 try dsimp only
 have N3 : Nst al 0 H3 fa ma := ⟨by rw [List.drop_zero]; exact f3, by rw [List.take_zero]; exact m3, Nat.zero_le _⟩
 have aK : ∀ (H' : Hp), ao H H' -> SqL K H' a (ns.map V.int) := fun H' s' => by
  rcases hn with (h | ⟨o, h⟩) | h
  ·exact .inl (.inl (s' _ _ h))
  ·exact .inl (.inr ⟨o, s' _ _ h⟩)
  ·exact .inr h
 have hmany : (0 : Int) < 1 + x / 96 % 4 := by omega
 refine ⟨_, rfl, 1 + x / 96 % 4, rfl, by omega, by omega, gD (n := (1 + x / 96 % 4).toNat) (fun i σ H' => ∃ (o7 : Option V) (ks : List Kd) (us : List V) (m : Nat), σ = [some (.ref a), some (.int x), some (.str ⟨#[ch]⟩), some (.ref fa), some (.ref ma), some (.ref pa), some (.int (1 + x / 96 % 4)), o7, none, none, none, none, none, none, none] /\ ao H H' /\ Nst al m H' fa ma /\ H' pa = some (.lst us) /\ Reps H' (ks.map Kd.dv) us /\ ks.length = i /\ (∀ k ∈ ks, k.size <= 31 /\ k.All (Ld al)) /\ wlk [] (ks.flatMap Kd.pts) = some (al.take m)) ⟨_, [], [], 0, rfl, s03, N3, p3, by simp [Reps], rfl, by simp, rfl⟩ ?T1 ?_⟩
 case T1 =>
  rintro i σ H4 hi ⟨o7, ks, us, m, rfl, s4, N4, p4, R4, lk, kA, wk⟩
  refine ⟨_, rfl, .inl ⟨rfl, _, SqL.of p4⟩, _, rfl, _, rfl, _, _, rfl, rfl, _, rfl, _, rfl, _, rfl, a, ns, _, rfl, rfl, by omega, aK _ s4, fun p ms lm hp => ?_⟩
  have s5 := ac hp (.lst (ms.map V.int))
  have q5 : upd H4 p (.lst (ms.map V.int)) p = some (.lst (ms.map V.int)) := ab
  have N5 := N4.m s5
  have p5 := s5 _ _ p4
  have pf : p ≠ fa := Ne.symm (ai N4.fr hp)
  have pm : p ≠ ma := Ne.symm (ai N4.mt hp)
  have s05 := s4.trans s5
  have R5 := R4.mono s5
  generalize upd H4 p (.lst (ms.map V.int)) = H5 at s5 q5 N5 p5 s05 R5 ⊢
  refine ⟨_, rfl, _, rfl, p, fa, ma, ms, al, m, 4, rfl, by decide, by decide, SqL.of q5, by omega, N5, alnd, al4, fm, pf, pm, fun H6 v k m' sF N6 Rk kw sz => ?_⟩
  have p6 := sF _ _ (Ne.symm fp) (Ne.symm mp) p5
  have t6 := N5.tups sF
  have lus : us.length <= 4 := by have := R4.length; rw [List.length_map] at this; omega
  refine ⟨pa, us, v, rfl, rfl, p6, by rw [sizeLine_eq]; omega, ?_⟩
  have t7 : bG H6 (upd H6 pa (.lst (us ++ [v]))) := iB p6
  have s06 : ao H H6 := fun g o e => sF g o (ai e hfr) (ai e hmr) (s05 _ _ e)
  refine ⟨_, ks ++ [k], us ++ [v], m', rfl, fun g o e => ?_, ⟨?_, ?_, N6.le⟩, ab, ?_, by rw [List.length_append, lk]; rfl, fun j hj => ?_, ?_⟩
  ·rw [aq (ai e hpr)]; exact s06 _ _ e
  ·rw [aq fp]; exact N6.fr
  ·rw [aq mp]; exact N6.mt
  ·rw [List.map_append]
   exact Reps.append (bU (fun d hd v r => by obtain ⟨y, _, rfl⟩ := List.mem_map.mp hd; exact Kd.tupS t7 (Kd.tupS t6 r)) R5) (bb (Kd.tupS t7 Rk))
  ·rcases List.mem_append.mp hj with h | h
   ·exact kA j h
   ·rw [List.mem_singleton.mp h]; exact ⟨by have : k.size + 1 <= 32 := sz; omega, kw.all⟩
  ·rw [List.flatMap_append, gf, wk]
   show wlk (al.take m) (k.pts ++ []) = _
   rw [List.append_nil]; exact kw.wk
 rintro σ H4 ⟨o7, ks, us, m, rfl, s4, N4, p4, R4, lk, kA, wk⟩
 refine ⟨_, rfl, ma, _, rfl, .inl ⟨SqL.of N4.mt, fun t0 ht0 => ?_⟩⟩
 have s5 := ac ht0 (.tup ((al.take m).map V.str))
 have q5 : upd H4 t0 (.tup ((al.take m).map V.str)) t0 = some (.tup ((al.take m).map V.str)) := ab
 have N5 := N4.m s5
 have p5 := s5 _ _ p4
 have R5 := R4.mono s5
 have s05 := s4.trans s5
 generalize upd H4 t0 (.tup ((al.take m).map V.str)) = H5 at s5 q5 N5 p5 R5 s05 ⊢
 refine gnm ?_
 dsimp only
 have mnd : (al.take m).Nodup := (List.take_sublist _ _).nodup alnd
 have ml4 : (al.take m).length <= 4 := by rw [List.length_take]; omega
 refine nG (fun σ' H' => ∃ (nt : Addr) (nms : List Str), σ' = [some (.ref a), some (.int x), some (.str ⟨#[ch]⟩), some (.ref fa), some (.ref ma), some (.ref pa), some (.int (1 + x / 96 % 4)), o7, some (.ref nt), none, none, none, none, none, none] /\ ao H5 H' /\ H' nt = some (.tup (nms.map V.str)) /\ nms.Nodup /\ nms.length <= 4 /\ ∀ y, y ∈ nms ↔ y ∈ al.take m) ?R1 (fun qn => ⟨_, rfl, _, _, rfl, rfl, ⟨by decide, by decide⟩, _, _, rfl, rfl, (by show (0 : Int) < 2; decide), rfl, _, rfl, bm (fun _ => ⟨_, rfl, ma, _, rfl, SqL.of N5.mt, fun t1 ht1 => qn _ _ ⟨t1, (al.take m).reverse, rfl, ac ht1 _, by rw [ab, List.map_reverse], (List.reverse_perm _).nodup_iff.mpr mnd, by rw [List.length_reverse]; exact ml4, fun y => List.mem_reverse⟩⟩) (fun _ => qn _ _ ⟨t0, al.take m, rfl, ao.refl _, q5, mnd, ml4, fun y => Iff.rfl⟩)⟩)
 case R1 =>
  rintro σ H6 ⟨nt, nms, rfl, s6, hnt, nnd, nl4, nm⟩
  intro d hd
  have hdr : H d = none := (s05.trans s6).free hd
  have nd0 : nt ≠ d := ai hnt hd
  have pd0 : pa ≠ d := ai (s6 _ _ p5) hd
  have s7 := ac hd (.dK [])
  have d7 : Pd nms UN (upd H6 d (.dK [])) d [] := ⟨ab, ⟨by simp⟩, ⟨by simp [aA, aH], by simp [aA, aH], by simp [aH]⟩⟩
  have s57 := s6.trans s7
  have hnt7 := s7 _ _ hnt
  generalize upd H6 d (.dK []) = H7 at s7 d7 s57 hnt7 ⊢
  have s07 := s05.trans s57
  refine gnm ?_
  refine ⟨_, rfl, nt, rfl, ⟨_, SqT.of hnt7⟩, qx (xs := nms.map V.str) (fun j σ H' => ∃ (p7 o10 : Option V) (en : List En), σ = [some (.ref a), some (.int x), some (.str ⟨#[ch]⟩), some (.ref fa), some (.ref ma), some (.ref pa), some (.int (1 + x / 96 % 4)), p7, some (.ref nt), some (.ref d), o10, none, none, none, none] /\ bq d H7 H' /\ bG H7 H' /\ Pd nms UN H' d en /\ aA (aH en) = nms.take j /\ ∀ e ∈ aH en, aR e.2.ps /\ 0 <= e.2.c /\ e.2.c <= 3 /\ ∀ q ∈ e.2.ps, q.2 <= 3 /\ q.1 ∈ UN) ⟨_, _, [], rfl, bq.refl _ _, bG.refl _, d7, rfl, by simp [aH]⟩ (fun j σ H' _ ⟨_, _, _, _, sx, _⟩ => SqT.of (sx _ _ nd0 hnt7)) ?T2 ?_⟩
  case T2 =>
   rintro j xv σ H8 p hx ⟨p7, o10, en, rfl, s8, t8, pd8, ek, e3⟩ hp
   rw [List.getElem?_map] at hx
   obtain ⟨y, hy, rfl⟩ := Option.map_eq_some_iff.mp hx
   have hj : j < nms.length := (List.getElem?_eq_some_iff.mp hy).1
   have s9 := ac hp (.tup [.int j, .str y])
   refine ⟨p, _, rfl, SqT.of ab, rfl, _, _, rfl, _, _, rfl, rfl, ?_⟩
   have pd9 := pd8.m s9
   have s79 := s8.trans (ao.b d s9)
   have t79 := t8.trans (ao.tups s9)
   generalize upd H8 p (.tup [.int j, .str y]) = H9 at s9 pd9 s79 t79 ⊢
   have s09 : ao H H9 := fun g o e => s79 g o (ai e hdr) (s07 _ _ e)
   refine ⟨_, rfl, a, ns, 1, rfl, aK _ s09, by omega, by decide, fun c1 => ⟨_, rfl, _, _, rfl, rfl, _, _, rfl, rfl, ⟨by show (0 : Int) < (j : Int) + 1; omega, by show (j : Int) + 1 < _; omega⟩, _, rfl, _, _, rfl, rfl, z3, fun lu hlu => ?_⟩⟩
   have s10 := ac hlu (.lst [.str "u", .str "v", .str "m"])
   refine ⟨_, lu, [Str.ofString "u", Str.ofString "v", Str.ofString "m"], rfl, ab, by decide, by decide, fun H11 v c ps s11 Rv dw => ?_⟩
   have s911 := s10.trans s11
   have pd11 := pd9.m s911
   obtain ⟨gL, aL⟩ := dw.gd
   obtain ⟨wa, _, _, rfl, _, _, _, _⟩ := bn Rv
   have yn : y ∉ aA (aH en) := by
    rw [ek]
    have hd' : (nms.take (j + 1)).Nodup := (List.take_sublist _ _).nodup nnd
    rw [List.take_add_one, hy, List.nodup_append] at hd'
    exact fun z => hd'.2.2 y z y (by simp) rfl
   refine ⟨_, rfl, _, rfl, d, _, rfl, gY.k (k := Sum.inr y) pd11.at_ ?_, ?_⟩
   ·rw [show (enK en).length = en.length from List.length_map _, sizeLine_eq]; have := pd11.len; omega
   obtain ⟨sB, tB, pdN, pe⟩ := tU (l := ⟨c, ps⟩) pd11 yn (List.mem_of_getElem? hy) gL (by decide) Rv
   refine ⟨_, _, _, rfl, s79.trans ((ao.b d s911).trans sB), t79.trans ((ao.tups s911).trans tB), pdN, ?_, ?_⟩
   ·rw [pe]
    unfold aA at ek ⊢
    rw [List.map_append, ek, List.take_add_one, hy]; rfl
   ·rw [pe]
    intro e he
    rcases List.mem_append.mp he with h | h
    ·exact e3 e h
    ·rw [List.mem_singleton.mp h]; exact ⟨dw.can, dw.c0, dw.c1, aL⟩
  rintro σ H8 ⟨p7, o10, en, rfl, s8, t8, pd8, ek, e3⟩
  rw [List.length_map, List.take_length] at ek
  have p7' : H7 pa = some (.lst us) := s57 _ _ p5
  have p8 := s8 _ _ pd0 p7'
  have s08 : ao H H8 := fun g o e => s8 g o (ai e hdr) (s07 _ _ e)
  have R8 : Reps H8 (ks.map Kd.dv) us := bU (fun d hd v r => by obtain ⟨y, _, rfl⟩ := List.mem_map.mp hd; exact Kd.tupS t8 r) (R5.mono s57)
  have hnt8 := s8 _ _ nd0 hnt7
  have lpE : Lp (al.take m) UN H8 d en := ⟨pd8.at_, pd8.ok, e3, fun y hy => by rw [ek]; exact (nm y).mpr hy⟩
  have kL : ∀ k ∈ ks, k.size <= 31 /\ k.All (Ld (al.take m)) := fun k hk => ⟨(kA k hk).1, vP wk hk (kA k hk).2⟩
  refine ⟨_, rfl, pa, rfl, ⟨_, SqL.of p8⟩, ke (xs := us) (fun i ys H' => ao H8 H' /\ ∃ js : List Kd, Reps H' (js.map Kd.dv) ys /\ js.length = i /\ ∀ j ∈ js, j.size <= 31 /\ j.All (Ge UN)) ⟨ao.refl _, [], by simp [Reps], rfl, by simp⟩ (fun i ys H' _ p => SqL.of (p.1 _ _ p8)) ?L1 ?_⟩
  case L1 =>
   rintro i ys H9 xv hx ⟨s9, js, Rj, lj, jA⟩
   obtain ⟨k, hk, Rk⟩ := cB R8 hx
   obtain ⟨k1, k2⟩ := kL k (List.mem_of_getElem? hk)
   have hi : i < us.length := (List.getElem?_eq_some_iff.mp hx).1
   have l8 := R8.length
   rw [List.length_map] at l8
   refine cM ⟨_, rfl, _, rfl, al.take m, xv, d, k, en, rfl, Rk.mono s9, k1, k2, lpE.m s9, fun H10 w10 k' s10 R10 g10 z10 => ⟨?_, s9.trans s10, js ++ [k'], ?_, by rw [List.length_append, lj]; rfl, fun j hj => ?_⟩⟩
   ·have := Rj.length
    rw [List.length_map] at this
    rw [this, lj, sizeLine_eq]; omega
   ·rw [List.map_append]; exact Reps.append (Rj.mono s10) (bb R10)
   ·rcases List.mem_append.mp hj with h | h
    ·exact jA j h
    ·rw [List.mem_singleton.mp h]; exact ⟨by omega, g10⟩
  rintro gs H9 ⟨s9, js, Rj, lj, jA⟩ gl hgl
  have l8 := R8.length
  rw [List.length_map] at l8
  rw [l8] at lj
  have s10 := ac hgl (.lst gs)
  have g10 : upd H9 gl (.lst gs) gl = some (.lst gs) := ab
  have s810 := s9.trans s10
  have R10 := Rj.mono s10
  have glp : pa ≠ gl := ai (s9 _ _ p8) hgl
  have gln : nt ≠ gl := ai (s9 _ _ hnt8) hgl
  have glr : H gl = none := (s08.trans s9).free hgl
  generalize upd H9 gl (.lst gs) = H10 at s10 g10 s810 R10 ⊢
  have s010 := s08.trans s810
  refine gnm ?_
  dsimp only
  refine nG (fun σ' H' => ∃ (o12 : Option V) (js' : List Kd) (gs' : List V), σ' = [some (.ref a), some (.int x), some (.str ⟨#[ch]⟩), some (.ref fa), some (.ref ma), some (.ref pa), some (.int (1 + x / 96 % 4)), p7, some (.ref nt), some (.ref d), o10, some (.ref gl), o12, none, none] /\ bq gl H10 H' /\ bG H10 H' /\ H' gl = some (.lst gs') /\ Reps H' (js'.map Kd.dv) gs' /\ js'.length = ks.length /\ ∀ j ∈ js', j.size <= 100 /\ j.All (GdK UN)) ?R2 (fun qn => ⟨_, rfl, _, _, rfl, rfl, ⟨by decide, by decide⟩, _, _, rfl, rfl, (by show (0 : Int) < 2; decide), rfl, _, rfl, bm (fun _ => ?Y) (fun _ => qn _ _ ⟨_, js, gs, rfl, bq.refl _ _, bG.refl _, g10, R10, lj, fun j hj => ⟨by have := (jA j hj).1; omega, cA (fun c ps h => Ge.gd h) (jA j hj).2⟩⟩)⟩)
  case Y =>
   refine ⟨_, rfl, _, _, rfl, rfl, ⟨by decide, by decide⟩, _, rfl, _, _, rfl, rfl, hmany, ?_⟩
   refine gnm ?_
   obtain ⟨b0, b1⟩ := mod_lt (a := x / 1600) (1 + x / 96 % 4) hmany
   have lgs : gs.length = ks.length := by have := R10.length; rw [List.length_map] at this; omega
   have hlt : (x / 1600 % (1 + x / 96 % 4)).toNat < gs.length := by omega
   have hat := ah (List.getElem?_eq_getElem hlt)
   rw [show (((x / 1600 % (1 + x / 96 % 4)).toNat : Nat) : Int) = x / 1600 % (1 + x / 96 % 4) by omega] at hat
   obtain ⟨jk, hjk, Rjk⟩ := cB R10 (List.getElem?_eq_getElem hlt)
   obtain ⟨j1, j2⟩ := jA jk (List.mem_of_getElem? hjk)
   refine ⟨_, rfl, _, rfl, gl, _, _, _, rfl, rfl, SqL.of g10, hat, _, rfl, a, ns, 1, rfl, aK _ s010, by omega, by decide, fun c1 => ⟨_, _, rfl, rfl, ⟨by decide, by decide, by decide⟩, _, _, rfl, rfl, (by show (0 : Int) < 10 ^ (20 : Int).toNat; decide), _, rfl, _, _, rfl, rfl, .inl ⟨by decide, by decide⟩, _, _, rfl, rfl, _, _, jk, rfl, Rjk, j1, j2, fun H11 w11 k' s11 R11 g11 z11 => ?_⟩⟩
   refine ⟨_, rfl, _, rfl, gl, gs, _, (x / 1600 % (1 + x / 96 % 4)).toNat, rfl, rfl, s11 _ _ g10, by unfold ixN; rw [if_pos b0, if_pos (by omega)], ?_⟩
   have tB : bG H11 (upd H11 gl (.lst (gs.set (x / 1600 % (1 + x / 96 % 4)).toNat w11))) := iB (s11 _ _ g10)
   refine qn _ _ ⟨_, js.set (x / 1600 % (1 + x / 96 % 4)).toNat k', _, rfl, (ao.b gl s11).trans (bq.upd _ _ _), (ao.tups s11).trans tB, ab, ?_, by rw [List.length_set]; exact lj, fun j hj => ?_⟩
   ·rw [List.map_set]
    exact me (bU (fun d hd v r => by obtain ⟨y, _, rfl⟩ := List.mem_map.mp hd; exact Kd.tupS tB (r.mono s11)) R10) (Kd.tupS tB R11)
   ·rcases List.mem_or_eq_of_mem_set hj with h | rfl
    ·exact ⟨by have := (jA j h).1; omega, cA (fun c ps h => Ge.gd h) (jA j h).2⟩
    ·exact ⟨by omega, g11⟩
  case R2 =>
   rintro σ H11 ⟨o12, js', gs', rfl, s11, t11, g11, R11, lj', jA'⟩
   have p11 := s11 _ _ glp (s810 _ _ p8)
   have n11 := s11 _ _ gln (s810 _ _ hnt8)
   have s011 : ao H H11 := fun g o e => s11 g o (ai e glr) (s010 _ _ e)
   have K11 : Reps H11 (ks.map Kd.dv) us := bU (fun d hd v r => by obtain ⟨y, _, rfl⟩ := List.mem_map.mp hd; exact Kd.tupS t11 r) (R8.mono s810)
   refine ⟨_, rfl, pa, _, rfl, .inl (SqL.of p11), fun l1 hl1 => ?_⟩
   have s12 := ac hl1 (.lst us)
   have h12 : upd H11 l1 (.lst us) l1 = some (.lst us) := ab
   generalize upd H11 l1 (.lst us) = H12 at s12 h12 ⊢
   refine ⟨_, rfl, gl, _, rfl, .inl (SqL.of (s12 _ _ g11)), fun l2 hl2 => ⟨z2, fun lh hlh => ?_⟩⟩
   have s13 := ac hl2 (.lst gs')
   have h13 : upd H12 l2 (.lst gs') l2 = some (.lst gs') := ab
   generalize upd H12 l2 (.lst gs') = H13 at s13 h13 hlh ⊢
   have s14 := ac hlh (.lst [.ref l1, .ref l2])
   have h14 : upd H13 lh (.lst [.ref l1, .ref l2]) lh = some (.lst [.ref l1, .ref l2]) := ab
   generalize upd H13 lh (.lst [.ref l1, .ref l2]) = H14 at s14 h14 ⊢
   have sA := s12.trans (s13.trans s14)
   have hl1' := s14 _ _ (s13 _ _ h12)
   have hl2' := s14 _ _ h13
   refine gnm ?_
   have kP : ∀ k ∈ ks, k.size <= 100 /\ k.All (Pm (al.take m)) := fun k hk => ⟨by have := (kL k hk).1; omega, cA (fun c ps h => Ld.pm h) (kL k hk).2⟩
   have hbn : ∀ pls, cV [] (ks.zip js') = .inr pls -> ∀ y ∈ nms, y ∈ aA pls := fun pls e y hy => by
    rw [iC lj'.symm e wk]; exact (nm y).mp hy
   have Rn : ∀ {H' : Hp}, H' nt = some (.tup (nms.map V.str)) -> Rep H' (.tup (nms.map Dv.str)) (.ref nt) := fun {H'} h => by
    rw [Rep]
    exact ⟨nt, _, rfl, h, jx nms⟩
   have g14 := sA _ _ g11
   have p14 := sA _ _ p11
   have n14' := sA _ _ n11
   have K14 := K11.mono sA
   have R14 := R11.mono sA
   refine ⟨_, rfl, _, rfl, lh, _, 0, .ref l1, rfl, rfl, SqL.of h14, ah (j := 0) rfl, _, rfl, lh, _, 1, .ref l2, rfl, rfl, SqL.of h14, ah (j := 1) rfl, al.take m, .ref nt, l1, l2, nms, ks, js', us, gs', rfl, Rn n14', hl1', K14, hl2', R14, kP, jA', ml4, by decide, nl4, hbn, fun H15 w15 s15 R15 => ?_⟩
   refine gnm ?_
   refine ⟨_, rfl, _, rfl, _, rfl, _, rfl, al.take m, .ref nt, pa, gl, nms, ks, js', us, gs', rfl, Rn (s15 _ _ n14'), s15 _ _ p14, K14.mono s15, s15 _ _ g14, R14.mono s15, kP, jA', ml4, by decide, nl4, hbn, fun H16 w16 s16 R16 => ?_⟩
   obtain ⟨ds, eds, dpl⟩ := qS nms (ks.zip js')
   rw [eds] at R15 R16
   refine ⟨6, ds, ds, dpl, dpl, by decide, R15.mono s16, R16, fun b hb => ⟨_, rfl, ?_⟩⟩
   rw [hb.mpr rfl]
   obtain ⟨fa', fvs, rfl, hf', _⟩ := Rep.tup_inv (R15.mono s16)
   refine bR ⟨_, rfl, _, _, _, _, rfl, fR.tup hf', rfl, _, rfl, ?_⟩
   refine bR ?_
   have s1416 := s15.trans s16
   refine ⟨_, rfl, _, rfl, _, rfl, z2, fun lq hlq => ?_⟩
   have s17 := ac hlq (.lst [.ref pa, .ref gl])
   have s14z := s1416.trans s17
   have RL : ∀ {H' : Hp} {l : Addr} {vs : List V} {ds : List Dv}, H' l = some (.lst vs) -> Reps H' ds vs -> Rep H' (.lst ds) (.ref l) := fun {H' l vs ds} h r => by rw [Rep]; exact ⟨l, vs, rfl, h, r⟩
   refine ⟨103, [ks.map Kd.dv, js'.map Kd.dv], fun ds hds => ?_, by decide, ?_, ?_, q _ (s011.trans (sA.trans s14z))⟩
   ·rcases List.mem_cons.mp hds with rfl | hds
    ·exact sW fun k hk => (kP k hk).1
    ·rw [List.mem_singleton.mp hds]; exact sW fun k hk => (jA' k hk).1
   ·refine RL (s14z _ _ h14) ?_
    simp only [List.map_cons, List.map_nil, Reps]
    exact ⟨_, _, rfl, RL (s14z _ _ hl1') (K14.mono s14z), _, _, rfl, RL (s14z _ _ hl2') (R14.mono s14z), rfl⟩
   ·refine RL ab ?_
    simp only [List.map_cons, List.map_nil, Reps]
    exact ⟨_, _, rfl, RL (s14z _ _ p14) (K14.mono s14z), _, _, rfl, RL (s14z _ _ g14) (R14.mono s14z), rfl⟩
end
abbrev fQ : Stmt := top 36
def pO (K : PySem.W.Frag) : Sp := fun vs H Q _ => ∃ (a : Addr) (ns : List Int), vs = [.ref a] /\ SqL K H a (ns.map V.int) /\ ns.length <= 63 /\ ∀ H', Q (.bl true) H'
theorem xx (n : Nat) (h : n <= 63) : (Builtin.Range.rangeSize 0 (if (n : Int) > 1 then (n : Int) else 1) 14).toNat <= 12 := by
 unfold Builtin.Range.rangeSize
 split <;> (repeat' split) <;> omega
theorem xw {X : Cx} (K : PySem.W.Frag) (e : X.K = K) : SlR X (wP K) := by subst e; exact fi
section
variable {P : Program} {w : World} {K : PySem.W.Frag} {mg : Str -> Option Value} {base : Heap}
theorem rM : aW ["_law_script"] ["_law_script"] (aj fQ) := ⟨rfl, rfl, rfl, by decide +kernel, rfl, by decide +kernel, by decide +kernel⟩
theorem we {f : Addr} {fd : FuncData} {k0 : Nat} (F : Fun K "law" "law" fQ f fd) (T : Txt K mg) (D_law_right : Def P w K mg base k0 "_law_right" ["_law_script"] (kO K)) : br P w K mg base CX0 (k0 + 1) f fd ["_law_script"] (pO K) := by
 have nd : (["_law_script"] : List Str).Nodup := rM.nd
 refine F.ok rM (fun vs H Q E h => ?_) (fun cdv A outer s H vs Q E hr h => ?_)
 ·obtain ⟨a, ns, rfl, _⟩ := h
  rfl
 obtain ⟨a, ns, rfl, hn, n63, q⟩ := h
 refine ⟨_, (@ak _ _ _ (@aE _ _ _ _ (@bt _ _ _ _ _ _ _ _ _ (tM rfl) rfl T.all (by decide +kernel) (@aa _ _ _ _ _ (@dq _ _ (["_law_at"]) ([0]) _ _ _ _ _ _ _ _ _ (@qM _ _ _ _ _ _ _ _ rfl T.range (@aa _ _ _ _ _ (@ad _ _ _ _) (@aa _ _ _ _ _ (@bt _ _ _ _ _ _ _ _ _ (jS rfl) rfl T.max (by decide +kernel) (@aa _ _ _ _ _ (@ad _ _ _ _) (@aa _ _ _ _ _ (@bt _ _ _ _ _ _ _ _ _ bz rfl T.len (by decide +kernel) (@aa _ _ _ _ _ (@pv _ 0 _ _ (by rfl) (by trivial) (by decide) (by decide)) (@ae _) (by rfl)) (by decide) (by decide) (by rfl) (by rfl)) (@ae _) (by rfl)) (by rfl)) (by decide) (by decide) (by rfl) (by rfl)) (@aa _ _ _ _ _ (@ad _ _ _ _) (@ae _) (by rfl)) (by rfl)) (by rfl)) (by rfl) (by rfl)) (.of rfl) rfl (fun _ _ _ => aG (i := 0) (bL (l := ["_law_at", "_law_script"]) ((by decide +kernel)) rfl) rfl (Or.inl rfl)) (bK (by decide)) (fun _ _ _ => (@cu _)) (fun _ _ _ => (@aI _ _ _ _ _ _ _ _ _ _ D_law_right hr rfl (@aa _ _ _ _ _ (@bY _ _ _ _ _ _ _ _ _ _ (xw K rfl) (@pv _ 1 _ _ (by rfl) (by trivial) (by decide) (by decide)) (@bM _ _ _ (@pv _ 0 _ _ (by rfl) (by trivial) (by decide) (by decide))) (@bM _ _ _ (@au _ _ _ _ _ _ _ _ bw (@pv _ 0 _ _ (by rfl) (by trivial) (by decide) (by decide)) (@ad _ _ _ _)))) (@ae _) (by rfl)) (by decide) (by rfl) (by rfl))) (by intro _; rfl)) (@ae _) (by rfl)) (by decide) (by decide) (by rfl) (by rfl)))), ?_⟩
 have aK : ∀ (H' : Hp), ao H H' -> SqL K H' a (ns.map V.int) := fun H' s' => by
  rcases hn with (h | ⟨o, h⟩) | h
  ·exact .inl (.inl (s' _ _ h))
  ·exact .inl (.inr ⟨o, s' _ _ h⟩)
  ·exact .inr h
 have r12 := xx ns.length n63
 refine ⟨_, rfl, a, _, rfl, .inl hn, 1, ((ns.map V.int).length : Int), rfl, 0, _, 14, rfl, ⟨by decide, by decide, by decide, by decide, ?_, ?_⟩, ?_⟩
 ·rw [List.length_map]; split <;> omega
 ·rw [List.length_map]; split <;> omega
 rw [List.length_map]
 refine wb (fun i ys H' => ao H H' /\ ys = (List.replicate i true).map V.bl) ⟨ao.refl _, rfl⟩ ?L1 ?_
 case L1 =>
  rintro i ys H1 hi ⟨s1, rfl⟩
  obtain ⟨ms, em, lm⟩ := ik ns (some (0 + (i : Int) * 14)) (some (0 + (i : Int) * 14 + 14))
  refine cM ⟨_, rfl, _, rfl, _, rfl, _, rfl, _, _, rfl, rfl, _, rfl, a, _, rfl, aK _ s1, fun p hp => ?_⟩
  rw [em]
  refine ⟨p, ms, rfl, SqL.of ab, by omega, fun H2 s2 => ⟨?_, s1.trans ((ac hp _).trans s2), ?_⟩⟩
  ·rw [List.length_map, List.length_replicate, sizeLine_eq]; omega
  ·rw [List.replicate_succ', List.map_append]; rfl
 rintro ys H1 ⟨s1, rfl⟩ l hl
 refine ⟨l, _, rfl, SqL.of ab, ?_⟩
 have e : ∀ n, (List.replicate n true).all id = true := fun n => by rw [List.all_eq_true]; intro b hb; rw [(List.mem_replicate.mp hb).2]; rfl
 rw [e]
 exact q _
end
theorem us1 {p : List Value -> Prop} (h : ∀ x0, p [x0]) : ∀ us : List Value, us.length = 1 -> p us
 | [x0], _ => h x0
theorem us2 {p : List Value -> Prop} (h : ∀ x0 x1, p [x0, x1]) : ∀ us : List Value, us.length = 2 -> p us
 | [x0, x1], _ => h x0 x1
theorem us3 {p : List Value -> Prop} (h : ∀ x0 x1 x2, p [x0, x1, x2]) : ∀ us : List Value, us.length = 3 -> p us
 | [x0, x1, x2], _ => h x0 x1 x2
theorem us4 {p : List Value -> Prop} (h : ∀ x0 x1 x2 x3, p [x0, x1, x2, x3]) : ∀ us : List Value, us.length = 4 -> p us
 | [x0, x1, x2, x3], _ => h x0 x1 x2 x3
theorem all_mk {l : PySem.W.OpenLaw} {w : World} {K : PySem.W.Frag} {h : Heap} {mg : Str -> Option Value} {fa f1 f2 f3 f4 f5 f6 f7 f8 f9 f10 f11 f12 f13 f14 f15 f16 f17 f18 f19 f20 f21 f22 f23 f24 f25 f26 f27 f28 f29 f30 f31 f32 : Addr} (X : K.In h) (G : h.Ns mainGlobals mg) (hfa : mg "law" = some (.ref fa))
  {od1 an1 od2 an2 od3 an3 od4 an4 od5 an5 od6 an6 od7 an7 od8 an8 od9 an9 od10 an10 od11 an11 od12 an12 od13 an13 od14 an14 od15 an15 od16 an16 od17 an17 od18 an18 od19 an19 od20 an20 od21 an21 od22 an22 od23 an23 od24 an24 od25 an25 od26 an26 od27 an27 od28 an28 od29 an29 od30 an30 od31 an31 od32 an32 : Option Addr} {sl1 sl2 sl3 sl4 sl5 sl6 sl7 sl8 sl9 sl10 sl11 sl12 sl13 sl14 sl15 sl16 sl17 sl18 sl19 sl20 sl21 sl22 sl23 sl24 sl25 sl26 sl27 sl28 sl29 sl30 sl31 sl32 : Array (Option Value)}
  {oc1 kV1 dc1 pm1 cd1 ct1 oc2 kV2 dc2 pm2 cd2 ct2 oc3 kV3 dc3 pm3 cd3 ct3 oc4 kV4 dc4 pm4 cd4 ct4 oc5 kV5 dc5 pm5 cd5 ct5 oc6 kV6 dc6 pm6 cd6 ct6 oc7 kV7 dc7 pm7 cd7 ct7 oc8 kV8 dc8 pm8 cd8 ct8 oc9 kV9 dc9 pm9 cd9 ct9 oc10 kV10 dc10 pm10 cd10 ct10 oc11 kV11 dc11 pm11 cd11 ct11 oc12 kV12 dc12 pm12 cd12 ct12 oc13 kV13 dc13 pm13 cd13 ct13 oc14 kV14 dc14 pm14 cd14 ct14 oc15 kV15 dc15 pm15 cd15 ct15 oc16 kV16 dc16 pm16 cd16 ct16 oc17 kV17 dc17 pm17 cd17 ct17 oc18 kV18 dc18 pm18 cd18 ct18 oc19 kV19 dc19 pm19 cd19 ct19 oc20 kV20 dc20 pm20 cd20 ct20 oc21 kV21 dc21 pm21 cd21 ct21 oc22 kV22 dc22 pm22 cd22 ct22 oc23 kV23 dc23 pm23 cd23 ct23 oc24 kV24 dc24 pm24 cd24 ct24 oc25 kV25 dc25 pm25 cd25 ct25 oc26 kV26 dc26 pm26 cd26 ct26 oc27 kV27 dc27 pm27 cd27 ct27 oc28 kV28 dc28 pm28 cd28 ct28 oc29 kV29 dc29 pm29 cd29 ct29 oc30 kV30 dc30 pm30 cd30 ct30 oc31 kV31 dc31 pm31 cd31 ct31 oc32 kV32 dc32 pm32 cd32 ct32 : Value}
  {gT : Addr} {ocT : Value} {odT : Option Addr} {tT : Tok} {nT : Nat} {slT : Array (Option Value)}
  (a1 : PySem.W.nsIn K mainGlobals "of_number" = some (some (.ref f1)))
  (l1 : K.lookup f1 = some ⟨oc1, od1, .func (PySem.W.fnOf "of_number" "of_number" (aT cf) (aP cf) (aj cf) .none kV1 dc1 pm1 an1 cd1 ct1), sl1⟩)
  (c1 : PySem.W.codeIn K cd1 "of_number" = true) (k1 : PySem.W.keepIn K (.ref f1) = true)
  (a2 : PySem.W.nsIn K mainGlobals "of_name" = some (some (.ref f2)))
  (l2 : K.lookup f2 = some ⟨oc2, od2, .func (PySem.W.fnOf "of_name" "of_name" (aT cN) (aP cN) (aj cN) (.ref gT) kV2 dc2 pm2 an2 cd2 ct2), sl2⟩)
  (c2 : PySem.W.codeIn K cd2 "of_name" = true) (k2 : PySem.W.keepIn K (.ref f2) = true)
  (a3 : PySem.W.nsIn K mainGlobals "gathered" = some (some (.ref f3)))
  (l3 : K.lookup f3 = some ⟨oc3, od3, .func (PySem.W.fnOf "gathered" "gathered" (aT cz) (aP cz) (aj cz) .none kV3 dc3 pm3 an3 cd3 ct3), sl3⟩)
  (c3 : PySem.W.codeIn K cd3 "gathered" = true) (k3 : PySem.W.keepIn K (.ref f3) = true)
  (a4 : PySem.W.nsIn K mainGlobals "added" = some (some (.ref f4)))
  (l4 : K.lookup f4 = some ⟨oc4, od4, .func (PySem.W.fnOf "added" "added" (aT eY) (aP eY) (aj eY) .none kV4 dc4 pm4 an4 cd4 ct4), sl4⟩)
  (c4 : PySem.W.codeIn K cd4 "added" = true) (k4 : PySem.W.keepIn K (.ref f4) = true)
  (a5 : PySem.W.nsIn K mainGlobals "often" = some (some (.ref f5)))
  (l5 : K.lookup f5 = some ⟨oc5, od5, .func (PySem.W.fnOf "often" "often" (aT fe) (aP fe) (aj fe) .none kV5 dc5 pm5 an5 cd5 ct5), sl5⟩)
  (c5 : PySem.W.codeIn K cd5 "often" = true) (k5 : PySem.W.keepIn K (.ref f5) = true)
  (a6 : PySem.W.nsIn K mainGlobals "less" = some (some (.ref f6)))
  (l6 : K.lookup f6 = some ⟨oc6, od6, .func (PySem.W.fnOf "less" "less" (aT gu) (aP gu) (aj gu) .none kV6 dc6 pm6 an6 cd6 ct6), sl6⟩)
  (c6 : PySem.W.codeIn K cd6 "less" = true) (k6 : PySem.W.keepIn K (.ref f6) = true)
  (a7 : PySem.W.nsIn K mainGlobals "put" = some (some (.ref f7)))
  (l7 : K.lookup f7 = some ⟨oc7, od7, .func (PySem.W.fnOf "put" "put" (aT jR) (aP jR) (aj jR) .none kV7 dc7 pm7 an7 cd7 ct7), sl7⟩)
  (c7 : PySem.W.codeIn K cd7 "put" = true) (k7 : PySem.W.keepIn K (.ref f7) = true)
  (a8 : PySem.W.nsIn K mainGlobals "names_of" = some (some (.ref f8)))
  (l8 : K.lookup f8 = some ⟨oc8, od8, .func (PySem.W.fnOf "names_of" "names_of" (aT cy) (aP cy) (aj cy) .none kV8 dc8 pm8 an8 cd8 ct8), sl8⟩)
  (c8 : PySem.W.codeIn K cd8 "names_of" = true) (k8 : PySem.W.keepIn K (.ref f8) = true)
  (a9 : PySem.W.nsIn K mainGlobals "noughts" = some (some (.ref f9)))
  (l9 : K.lookup f9 = some ⟨oc9, od9, .func (PySem.W.fnOf "noughts" "noughts" (aT cP) (aP cP) (aj cP) .none kV9 dc9 pm9 an9 cd9 ct9), sl9⟩)
  (c9 : PySem.W.codeIn K cd9 "noughts" = true) (k9 : PySem.W.keepIn K (.ref f9) = true)
  (a10 : PySem.W.nsIn K mainGlobals "exceeding" = some (some (.ref f10)))
  (l10 : K.lookup f10 = some ⟨oc10, od10, .func (PySem.W.fnOf "exceeding" "exceeding" (aT cn) (aP cn) (aj cn) .none kV10 dc10 pm10 an10 cd10 ct10), sl10⟩)
  (c10 : PySem.W.codeIn K cd10 "exceeding" = true) (k10 : PySem.W.keepIn K (.ref f10) = true)
  (a11 : PySem.W.nsIn K mainGlobals "things_of" = some (some (.ref f11)))
  (l11 : K.lookup f11 = some ⟨oc11, od11, .func (PySem.W.fnOf "things_of" "things_of" (aT ci) (aP ci) (aj ci) .none kV11 dc11 pm11 an11 cd11 ct11), sl11⟩)
  (c11 : PySem.W.codeIn K cd11 "things_of" = true) (k11 : PySem.W.keepIn K (.ref f11) = true)
  (a12 : PySem.W.nsIn K mainGlobals "length_at" = some (some (.ref f12)))
  (l12 : K.lookup f12 = some ⟨oc12, od12, .func (PySem.W.fnOf "length_at" "length_at" (aT cj) (aP cj) (aj cj) .none kV12 dc12 pm12 an12 cd12 ct12), sl12⟩)
  (c12 : PySem.W.codeIn K cd12 "length_at" = true) (k12 : PySem.W.keepIn K (.ref f12) = true)
  (a13 : PySem.W.nsIn K mainGlobals "in_order" = some (some (.ref f13)))
  (l13 : K.lookup f13 = some ⟨oc13, od13, .func (PySem.W.fnOf "in_order" "in_order" (aT cx) (aP cx) (aj cx) .none kV13 dc13 pm13 an13 cd13 ct13), sl13⟩)
  (c13 : PySem.W.codeIn K cd13 "in_order" = true) (k13 : PySem.W.keepIn K (.ref f13) = true)
  (a14 : PySem.W.nsIn K mainGlobals "points_of" = some (some (.ref f14)))
  (l14 : K.lookup f14 = some ⟨oc14, od14, .func (PySem.W.fnOf "points_of" "points_of" (aT cc) (aP cc) (aj cc) .none kV14 dc14 pm14 an14 cd14 ct14), sl14⟩)
  (c14 : PySem.W.codeIn K cd14 "points_of" = true) (k14 : PySem.W.keepIn K (.ref f14) = true)
  (a15 : PySem.W.nsIn K mainGlobals "unbound" = some (some (.ref f15)))
  (l15 : K.lookup f15 = some ⟨oc15, od15, .func (PySem.W.fnOf "unbound" "unbound" (aT cQ) (aP cQ) (aj cQ) .none kV15 dc15 pm15 an15 cd15 ct15), sl15⟩)
  (c15 : PySem.W.codeIn K cd15 "unbound" = true) (k15 : PySem.W.keepIn K (.ref f15) = true)
  (a16 : PySem.W.nsIn K mainGlobals "bind_length" = some (some (.ref f16)))
  (l16 : K.lookup f16 = some ⟨oc16, od16, .func (PySem.W.fnOf "bind_length" "bind_length" (aT bB) (aP bB) (aj bB) .none kV16 dc16 pm16 an16 cd16 ct16), sl16⟩)
  (c16 : PySem.W.codeIn K cd16 "bind_length" = true) (k16 : PySem.W.keepIn K (.ref f16) = true)
  (a17 : PySem.W.nsIn K mainGlobals "bind_kind" = some (some (.ref f17)))
  (l17 : K.lookup f17 = some ⟨oc17, od17, .func (PySem.W.fnOf "bind_kind" "bind_kind" (aT ce) (aP ce) (aj ce) .none kV17 dc17 pm17 an17 cd17 ct17), sl17⟩)
  (c17 : PySem.W.codeIn K cd17 "bind_kind" = true) (k17 : PySem.W.keepIn K (.ref f17) = true)
  (a18 : PySem.W.nsIn K mainGlobals "bound" = some (some (.ref f18)))
  (l18 : K.lookup f18 = some ⟨oc18, od18, .func (PySem.W.fnOf "bound" "bound" (aT fj) (aP fj) (aj fj) .none kV18 dc18 pm18 an18 cd18 ct18), sl18⟩)
  (c18 : PySem.W.codeIn K cd18 "bound" = true) (k18 : PySem.W.keepIn K (.ref f18) = true)
  (a19 : PySem.W.nsIn K mainGlobals "_law_cell_at" = some (some (.ref f19)))
  (l19 : K.lookup f19 = some ⟨oc19, od19, .func (PySem.W.fnOf "_law_cell_at" "_law_cell_at" (aT cO) (aP cO) (aj cO) .none kV19 dc19 pm19 an19 cd19 ct19), sl19⟩)
  (c19 : PySem.W.codeIn K cd19 "_law_cell_at" = true) (k19 : PySem.W.keepIn K (.ref f19) = true)
  (a20 : PySem.W.nsIn K mainGlobals "_law_mixed" = some (some (.ref f20)))
  (l20 : K.lookup f20 = some ⟨oc20, od20, .func (PySem.W.fnOf "_law_mixed" "_law_mixed" (aT fb) (aP fb) (aj fb) .none kV20 dc20 pm20 an20 cd20 ct20), sl20⟩)
  (c20 : PySem.W.codeIn K cd20 "_law_mixed" = true) (k20 : PySem.W.keepIn K (.ref f20) = true)
  (a21 : PySem.W.nsIn K mainGlobals "_law_sum" = some (some (.ref f21)))
  (l21 : K.lookup f21 = some ⟨oc21, od21, .func (PySem.W.fnOf "_law_sum" "_law_sum" (aT jK) (aP jK) (aj jK) .none kV21 dc21 pm21 an21 cd21 ct21), sl21⟩)
  (c21 : PySem.W.codeIn K cd21 "_law_sum" = true) (k21 : PySem.W.keepIn K (.ref f21) = true)
  (a22 : PySem.W.nsIn K mainGlobals "_law_put" = some (some (.ref f22)))
  (l22 : K.lookup f22 = some ⟨oc22, od22, .func (PySem.W.fnOf "_law_put" "_law_put" (aT gr) (aP gr) (aj gr) .none kV22 dc22 pm22 an22 cd22 ct22), sl22⟩)
  (c22 : PySem.W.codeIn K cd22 "_law_put" = true) (k22 : PySem.W.keepIn K (.ref f22) = true)
  (a23 : PySem.W.nsIn K mainGlobals "_law_drawn" = some (some (.ref f23)))
  (l23 : K.lookup f23 = some ⟨oc23, od23, .func (PySem.W.fnOf "_law_drawn" "_law_drawn" (aT eZ) (aP eZ) (aj eZ) .none kV23 dc23 pm23 an23 cd23 ct23), sl23⟩)
  (c23 : PySem.W.codeIn K cd23 "_law_drawn" = true) (k23 : PySem.W.keepIn K (.ref f23) = true)
  (a24 : PySem.W.nsIn K mainGlobals "_law_length" = some (some (.ref f24)))
  (l24 : K.lookup f24 = some ⟨oc24, od24, .func (PySem.W.fnOf "_law_length" "_law_length" (aT dG) (aP dG) (aj dG) .none kV24 dc24 pm24 an24 cd24 ct24), sl24⟩)
  (c24 : PySem.W.codeIn K cd24 "_law_length" = true) (k24 : PySem.W.keepIn K (.ref f24) = true)
  (a25 : PySem.W.nsIn K mainGlobals "_law_kind" = some (some (.ref f25)))
  (l25 : K.lookup f25 = some ⟨oc25, od25, .func (PySem.W.fnOf "_law_kind" "_law_kind" (aT fB) (aP fB) (aj fB) .none kV25 dc25 pm25 an25 cd25 ct25), sl25⟩)
  (c25 : PySem.W.codeIn K cd25 "_law_kind" = true) (k25 : PySem.W.keepIn K (.ref f25) = true)
  (a26 : PySem.W.nsIn K mainGlobals "_law_points" = some (some (.ref f26)))
  (l26 : K.lookup f26 = some ⟨oc26, od26, .func (PySem.W.fnOf "_law_points" "_law_points" (aT dD) (aP dD) (aj dD) .none kV26 dc26 pm26 an26 cd26 ct26), sl26⟩)
  (c26 : PySem.W.codeIn K cd26 "_law_points" = true) (k26 : PySem.W.keepIn K (.ref f26) = true)
  (a27 : PySem.W.nsIn K mainGlobals "_law_given" = some (some (.ref f27)))
  (l27 : K.lookup f27 = some ⟨oc27, od27, .func (PySem.W.fnOf "_law_given" "_law_given" (aT eV) (aP eV) (aj eV) .none kV27 dc27 pm27 an27 cd27 ct27), sl27⟩)
  (c27 : PySem.W.codeIn K cd27 "_law_given" = true) (k27 : PySem.W.keepIn K (.ref f27) = true)
  (a28 : PySem.W.nsIn K mainGlobals "_law_spoilt" = some (some (.ref f28)))
  (l28 : K.lookup f28 = some ⟨oc28, od28, .func (PySem.W.fnOf "_law_spoilt" "_law_spoilt" (aT dE) (aP dE) (aj dE) .none kV28 dc28 pm28 an28 cd28 ct28), sl28⟩)
  (c28 : PySem.W.codeIn K cd28 "_law_spoilt" = true) (k28 : PySem.W.keepIn K (.ref f28) = true)
  (a29 : PySem.W.nsIn K mainGlobals "_law_rest" = some (some (.ref f29)))
  (l29 : K.lookup f29 = some ⟨oc29, od29, .func (PySem.W.fnOf "_law_rest" "_law_rest" (aT gK) (aP gK) (aj gK) .none kV29 dc29 pm29 an29 cd29 ct29), sl29⟩)
  (c29 : PySem.W.codeIn K cd29 "_law_rest" = true) (k29 : PySem.W.keepIn K (.ref f29) = true)
  (a30 : PySem.W.nsIn K mainGlobals "_law_due" = some (some (.ref f30)))
  (l30 : K.lookup f30 = some ⟨oc30, od30, .func (PySem.W.fnOf "_law_due" "_law_due" (aT je) (aP je) (aj je) .none kV30 dc30 pm30 an30 cd30 ct30), sl30⟩)
  (c30 : PySem.W.codeIn K cd30 "_law_due" = true) (k30 : PySem.W.keepIn K (.ref f30) = true)
  (a31 : PySem.W.nsIn K mainGlobals "_law_right" = some (some (.ref f31)))
  (l31 : K.lookup f31 = some ⟨oc31, od31, .func (PySem.W.fnOf "_law_right" "_law_right" (aT dS) (aP dS) (aj dS) .none kV31 dc31 pm31 an31 cd31 ct31), sl31⟩)
  (c31 : PySem.W.codeIn K cd31 "_law_right" = true) (k31 : PySem.W.keepIn K (.ref f31) = true)
  (a32 : PySem.W.nsIn K mainGlobals "law" = some (some (.ref f32)))
  (l32 : K.lookup f32 = some ⟨oc32, od32, .func (PySem.W.fnOf "law" "law" (aT fQ) (aP fQ) (aj fQ) .none kV32 dc32 pm32 an32 cd32 ct32), sl32⟩)
  (c32 : PySem.W.codeIn K cd32 "law" = true) (k32 : PySem.W.keepIn K (.ref f32) = true)
  (lT : K.lookup gT = some ⟨ocT, odT, .seq #[.int 1 tT] nT, slT⟩)
  (z1 : PySem.W.nsIn K mainGlobals "len" = some none)
  (z2 : PySem.W.nsIn K mainGlobals "isinstance" = some none)
  (z3 : PySem.W.nsIn K mainGlobals "tuple" = some none)
  (z4 : PySem.W.nsIn K mainGlobals "list" = some none)
  (z5 : PySem.W.nsIn K mainGlobals "dict" = some none)
  (z6 : PySem.W.nsIn K mainGlobals "set" = some none)
  (z7 : PySem.W.nsIn K mainGlobals "sorted" = some none)
  (z8 : PySem.W.nsIn K mainGlobals "zip" = some none)
  (z9 : PySem.W.nsIn K mainGlobals "range" = some none)
  (z10 : PySem.W.nsIn K mainGlobals "enumerate" = some none)
  (z11 : PySem.W.nsIn K mainGlobals "max" = some none)
  (z12 : PySem.W.nsIn K mainGlobals "reversed" = some none)
  (z13 : PySem.W.nsIn K mainGlobals "all" = some none)
  (z14 : PySem.W.nsIn K mainGlobals "any" = some none)
  :
  ∃ fd : FuncData, (∀ (s : Shared) (v : Value), BindsTo s fd ⟨[v], []⟩ [("_law_script", v)]) /\ ∀ base : Heap, K.In base -> base.Ns mainGlobals mg -> br l.prog w K mg base CX0 104 fa fd ["_law_script"] (pO K) := by
 have e := hfa.symm.trans (PySem.W.mg_of X G a32)
 cases e
 have T : Txt K mg := ⟨PySem.W.mg_none_of X G z1, PySem.W.mg_none_of X G z2, PySem.W.mg_none_of X G z3, PySem.W.mg_none_of X G z4, PySem.W.mg_none_of X G z5, PySem.W.mg_none_of X G z6, PySem.W.mg_none_of X G z7, PySem.W.mg_none_of X G z8, PySem.W.mg_none_of X G z9, PySem.W.mg_none_of X G z10, PySem.W.mg_none_of X G z11, PySem.W.mg_none_of X G z12, PySem.W.mg_none_of X G z13, PySem.W.mg_none_of X G z14⟩
 have F1 := bf (st := cf) l1 c1 k1
 have b1 := F1.binds (ps := ["n"]) fun _ _ _ _ _ _ => us1 fun _ => rfl
 have F2 : qh K "of_name" "of_name" cN f2 _ (.ref gT) := ⟨⟨_, _, _, _, _, _, _, _, _, rfl, l2, c2⟩⟩
 have b2 := F2.binds (ps := ["name", "times"]) (ds := []) lT rfl fun _ _ _ _ _ _ us hl => match us, hl with | [_, _], _ => ⟨_, rfl, rfl⟩
 have e2 := F2.binds (ps := ["name", "times"]) (ds := [.int 1 tT]) lT rfl fun _ _ _ _ _ _ us hl => match us, (show us.length = 1 by simpa using hl) with | [_], _ => ⟨_, rfl, rfl⟩
 have F3 := bf (st := cz) l3 c3 k3
 have b3 := F3.binds (ps := ["parts"]) fun _ _ _ _ _ _ => us1 fun _ => rfl
 have F4 := bf (st := eY) l4 c4 k4
 have b4 := F4.binds (ps := ["a", "b"]) fun _ _ _ _ _ _ => us2 fun _ _ => rfl
 have F5 := bf (st := fe) l5 c5 k5
 have b5 := F5.binds (ps := ["a", "n"]) fun _ _ _ _ _ _ => us2 fun _ _ => rfl
 have F6 := bf (st := gu) l6 c6 k6
 have b6 := F6.binds (ps := ["a", "b"]) fun _ _ _ _ _ _ => us2 fun _ _ => rfl
 have F7 := bf (st := jR) l7 c7 k7
 have b7 := F7.binds (ps := ["a", "places"]) fun _ _ _ _ _ _ => us2 fun _ _ => rfl
 have F8 := bf (st := cy) l8 c8 k8
 have b8 := F8.binds (ps := ["a"]) fun _ _ _ _ _ _ => us1 fun _ => rfl
 have F9 := bf (st := cP) l9 c9 k9
 have b9 := F9.binds (ps := ["a", "b"]) fun _ _ _ _ _ _ => us2 fun _ _ => rfl
 have F10 := bf (st := cn) l10 c10 k10
 have b10 := F10.binds (ps := ["a", "b"]) fun _ _ _ _ _ _ => us2 fun _ _ => rfl
 have F11 := bf (st := ci) l11 c11 k11
 have b11 := F11.binds (ps := ["point"]) fun _ _ _ _ _ _ => us1 fun _ => rfl
 have F12 := bf (st := cj) l12 c12 k12
 have b12 := F12.binds (ps := ["point"]) fun _ _ _ _ _ _ => us1 fun _ => rfl
 have F13 := bf (st := cx) l13 c13 k13
 have b13 := F13.binds (ps := ["whole", "parts_of"]) fun _ _ _ _ _ _ => us2 fun _ _ => rfl
 have F14 := bf (st := cc) l14 c14 k14
 have b14 := F14.binds (ps := ["kind"]) fun _ _ _ _ _ _ => us1 fun _ => rfl
 have F15 := bf (st := cQ) l15 c15 k15
 have b15 := F15.binds (ps := ["length", "bound"]) fun _ _ _ _ _ _ => us2 fun _ _ => rfl
 have F16 := bf (st := bB) l16 c16 k16
 have b16 := F16.binds (ps := ["length", "given", "places"]) fun _ _ _ _ _ _ => us3 fun _ _ _ => rfl
 have F17 := bf (st := ce) l17 c17 k17
 have b17 := F17.binds (ps := ["param", "given", "places"]) fun _ _ _ _ _ _ => us3 fun _ _ _ => rfl
 have F18 := bf (st := fj) l18 c18 k18
 have b18 := F18.binds (ps := ["names", "params", "given"]) fun _ _ _ _ _ _ => us3 fun _ _ _ => rfl
 have F19 := bf (st := cO) l19 c19 k19
 have b19 := F19.binds (ps := ["_law_script", "_law_k"]) fun _ _ _ _ _ _ => us2 fun _ _ => rfl
 have F20 := bf (st := fb) l20 c20 k20
 have b20 := F20.binds (ps := ["_law_cell", "_law_k"]) fun _ _ _ _ _ _ => us2 fun _ _ => rfl
 have F21 := bf (st := jK) l21 c21 k21
 have b21 := F21.binds (ps := ["_law_a", "_law_b"]) fun _ _ _ _ _ _ => us2 fun _ _ => rfl
 have F22 := bf (st := gr) l22 c22 k22
 have b22 := F22.binds (ps := ["_law_a", "_law_places"]) fun _ _ _ _ _ _ => us2 fun _ _ => rfl
 have F23 := bf (st := eZ) l23 c23 k23
 have b23 := F23.binds (ps := ["_law_cell", "_law_names"]) fun _ _ _ _ _ _ => us2 fun _ _ => rfl
 have F24 := bf (st := dG) l24 c24 k24
 have b24 := F24.binds (ps := ["_law_cell", "_law_free", "_law_met"]) fun _ _ _ _ _ _ => us3 fun _ _ _ => rfl
 have F25 := bf (st := fB) l25 c25 k25
 have b25 := F25.binds (ps := ["_law_cells", "_law_free", "_law_met", "_law_room"]) fun _ _ _ _ _ _ => us4 fun _ _ _ _ => rfl
 have F26 := bf (st := dD) l26 c26 k26
 have b26 := F26.binds (ps := ["_law_kind_here"]) fun _ _ _ _ _ _ => us1 fun _ => rfl
 have F27 := bf (st := eV) l27 c27 k27
 have b27 := F27.binds (ps := ["_law_kind_here", "_law_places"]) fun _ _ _ _ _ _ => us2 fun _ _ => rfl
 have F28 := bf (st := dE) l28 c28 k28
 have b28 := F28.binds (ps := ["_law_kind_here", "_law_cell"]) fun _ _ _ _ _ _ => us2 fun _ _ => rfl
 have F29 := bf (st := gK) l29 c29 k29
 have b29 := F29.binds (ps := ["_law_a", "_law_b"]) fun _ _ _ _ _ _ => us2 fun _ _ => rfl
 have F30 := bf (st := je) l30 c30 k30
 have b30 := F30.binds (ps := ["_law_names", "_law_params", "_law_given_here"]) fun _ _ _ _ _ _ => us3 fun _ _ _ => rfl
 have F31 := bf (st := dS) l31 c31 k31
 have b31 := F31.binds (ps := ["_law_script"]) fun _ _ _ _ _ _ => us1 fun _ => rfl
 have F32 := bf (st := fQ) l32 c32 k32
 refine ⟨PySem.W.fnOf "law" "law" (aT fQ) (aP fQ) (aj fQ) .none kV32 dc32 pm32 an32 cd32 ct32, fun s v => .of_eq rfl, fun base _ _ => ?_⟩
 have D1 : Def l.prog w K mg base 1 "of_number" ["n"] fC := ⟨f1, _, lW F1 T, b1, k1, PySem.W.mg_of X G a1⟩
 have D2 : Def l.prog w K mg base 1 "of_name" ["name", "times"] fS := ⟨f2, _, iM F2 T, b2, k2, PySem.W.mg_of X G a2⟩
 have E2 : qp l.prog w K mg base 1 "of_name" ["name", "times"] fS [.int 1] := ⟨f2, _, _, iM F2 T, e2, .cons ⟨tT, rfl⟩ .nil, k2, PySem.W.mg_of X G a2⟩
 have D3 : Def l.prog w K mg base 1 "gathered" ["parts"] lN := ⟨f3, _, nb F3 T, b3, k3, PySem.W.mg_of X G a3⟩
 have D4 : Def l.prog w K mg base 2 "added" ["a", "b"] kD := ⟨f4, _, sE (k := 1) F4 T (D3.up (by decide)), b4, k4, PySem.W.mg_of X G a4⟩
 have D5 : Def l.prog w K mg base 1 "often" ["a", "n"] kY := ⟨f5, _, ss F5 T, b5, k5, PySem.W.mg_of X G a5⟩
 have D7 : Def l.prog w K mg base 3 "put" ["a", "places"] rD := ⟨f7, _, wu (k := 2) F7 T (D1.up (by decide)) (D4.up (by decide)) (D5.up (by decide)) (E2.up (by decide)), b7, k7, PySem.W.mg_of X G a7⟩
 have D8 : Def l.prog w K mg base 1 "names_of" ["a"] gN := ⟨f8, _, mH F8 T, b8, k8, PySem.W.mg_of X G a8⟩
 have D9 : Def l.prog w K mg base 2 "noughts" ["a", "b"] gE := ⟨f9, _, nK (k := 1) F9 T (D8.up (by decide)), b9, k9, PySem.W.mg_of X G a9⟩
 have D10 : Def l.prog w K mg base 3 "exceeding" ["a", "b"] oP := ⟨f10, _, lQ (k := 2) F10 T (D9.up (by decide)), b10, k10, PySem.W.mg_of X G a10⟩
 have D6 : Def l.prog w K mg base 4 "less" ["a", "b"] gz := ⟨f6, _, uA (k := 3) F6 T (D10.up (by decide)), b6, k6, PySem.W.mg_of X G a6⟩
 have D12 : Def l.prog w K mg base 1 "length_at" ["point"] kM := ⟨f12, _, kU F12 T, b12, k12, PySem.W.mg_of X G a12⟩
 have D13 : Def l.prog w K mg base 2 "in_order" ["whole", "parts_of"] (gB f11) := ⟨f13, _, nu (k0 := 1) F13 T (lC F11 T) k11 b11, b13, k13, PySem.W.mg_of X G a13⟩
 have D14 : Def l.prog w K mg base 3 "points_of" ["kind"] fF := ⟨f14, _, ki (k0 := 2) F14 T D13 (PySem.W.mg_of X G a11), b14, k14, PySem.W.mg_of X G a14⟩
 have D15 : Def l.prog w K mg base 1 "unbound" ["length", "bound"] sv := ⟨f15, _, nP F15 T, b15, k15, PySem.W.mg_of X G a15⟩
 have D16 : ∀ fn, Def l.prog w K mg base 5 "bind_length" ["length", "given", "places"] (lc fn UN) := fun fn => ⟨f16, _, iF (k := 4) (fn := fn) (un := UN) F16 T (D15.up (by decide)) (D7.up (by decide)) (D10.up (by decide)) (D6.up (by decide)), b16, k16, PySem.W.mg_of X G a16⟩
 have D17 : ∀ fn, Def l.prog w K mg base 6 "bind_kind" ["param", "given", "places"] (ku fn UN) := fun fn => ⟨f17, _, lK (k0 := 5) (fn := fn) (un := UN) F17 T (D14.up (by decide)) (D12.up (by decide)) ((D16 fn).up (by decide)), b17, k17, PySem.W.mg_of X G a17⟩
 have D18 : Def l.prog w K mg base 7 "bound" ["names", "params", "given"] kj := ⟨f18, _, rg fun fn => sD (k0 := 6) (fn := fn) (un := UN) F18 T (D17 fn), b18, k18, PySem.W.mg_of X G a18⟩
 have D19 : Def l.prog w K mg base 1 "_law_cell_at" ["_law_script", "_law_k"] (oe K) := ⟨f19, _, oK F19 T, b19, k19, PySem.W.mg_of X G a19⟩
 have D20 : Def l.prog w K mg base 1 "_law_mixed" ["_law_cell", "_law_k"] dY := ⟨f20, _, tw F20 T, b20, k20, PySem.W.mg_of X G a20⟩
 have D21 : Def l.prog w K mg base 1 "_law_sum" ["_law_a", "_law_b"] mF := ⟨f21, _, vS F21 T, b21, k21, PySem.W.mg_of X G a21⟩
 have D22 : Def l.prog w K mg base 2 "_law_put" ["_law_a", "_law_places"] lJ := ⟨f22, _, uT (k := 1) F22 T (D21.up (by decide)), b22, k22, PySem.W.mg_of X G a22⟩
 have D23 : Def l.prog w K mg base 2 "_law_drawn" ["_law_cell", "_law_names"] kR := ⟨f23, _, qX (k := 1) F23 T (D20.up (by decide)), b23, k23, PySem.W.mg_of X G a23⟩
 have D24 : Def l.prog w K mg base 2 "_law_length" ["_law_cell", "_law_free", "_law_met"] iJ := ⟨f24, _, qJ (k := 1) F24 T (D20.up (by decide)) (D21.up (by decide)), b24, k24, PySem.W.mg_of X G a24⟩
 have ch25 : ∀ n, br l.prog w K mg base CX0 (2 + n) f25 _ ["_law_cells", "_law_free", "_law_met", "_law_room"] (iU K n) := fun n => by
  induction n with
  | zero => exact ⟨fun vs H Q E h => (by obtain ⟨a, fa, ma, ns, al, m, rm, rfl, _⟩ := h; rfl), fun A outer s H args us vs Q E hr he hb hv h => (by obtain ⟨a, fa, ma, ns, al, m, rm, _, h0, h1, _⟩ := h;  omega)⟩
  | succ n ih => exact uI (k0 := 2 + n) F25 T (D20.up (by omega)) (D24.up (by omega)) ⟨f25, _, ih, b25, k25, PySem.W.mg_of X G a25⟩
 have D25 : Def l.prog w K mg base 7 "_law_kind" ["_law_cells", "_law_free", "_law_met", "_law_room"] (iU K 5) := ⟨f25, _, ch25 5, b25, k25, PySem.W.mg_of X G a25⟩
 have ch26 : ∀ n, br l.prog w K mg base CX0 (1 + n) f26 _ ["_law_kind_here"] (eD n) := fun n => by
  induction n with
  | zero => exact ⟨fun vs H Q E h => (by obtain ⟨v, k, rfl, _⟩ := h; rfl), fun A outer s H args us vs Q E hr he hb hv h => (by obtain ⟨v, k, _, _, h0, _⟩ := h; have := k.size_pos; omega)⟩
  | succ n ih => exact qU (k0 := 1 + n) F26 T ⟨f26, _, ih, b26, k26, PySem.W.mg_of X G a26⟩
 have D26 : Def l.prog w K mg base 101 "_law_points" ["_law_kind_here"] (eD 100) := ⟨f26, _, ch26 100, b26, k26, PySem.W.mg_of X G a26⟩
 have ch27 : ∀ fn n, br l.prog w K mg base CX0 (2 + n) f27 _ ["_law_kind_here", "_law_places"] (ie fn UN n) := fun fn n => by
  induction n with
  | zero => exact ⟨fun vs H Q E h => (by obtain ⟨v, d, k, en, rfl, _⟩ := h; rfl), fun A outer s H args us vs Q E hr he hb hv h => (by obtain ⟨v, d, k, en, _, _, h0, _⟩ := h; have := k.size_pos; omega)⟩
  | succ n ih => exact sK (k0 := 2 + n) (fn := fn) (un := UN) F27 T (D22.up (by omega)) ⟨f27, _, ih, b27, k27, PySem.W.mg_of X G a27⟩
 have D27 : Def l.prog w K mg base 33 "_law_given" ["_law_kind_here", "_law_places"] sk := ⟨f27, _, rg fun fn => ch27 fn 31, b27, k27, PySem.W.mg_of X G a27⟩
 have ch28 : ∀ n, br l.prog w K mg base CX0 (1 + n) f28 _ ["_law_kind_here", "_law_cell"] (eG UN n) := fun n => by
  induction n with
  | zero => exact ⟨fun vs H Q E h => (by obtain ⟨v, c, k, rfl, _⟩ := h; rfl), fun A outer s H args us vs Q E hr he hb hv h => (by obtain ⟨v, c, k, _, _, h0, _⟩ := h; have := k.size_pos; omega)⟩
  | succ n ih => exact qa (k0 := 1 + n) (un := UN) F28 T (by decide +kernel) (by decide) (D20.up (by omega)) (D21.up (by omega)) ⟨f28, _, ih, b28, k28, PySem.W.mg_of X G a28⟩
 have D28 : Def l.prog w K mg base 32 "_law_spoilt" ["_law_kind_here", "_law_cell"] (eG UN 31) := ⟨f28, _, ch28 31, b28, k28, PySem.W.mg_of X G a28⟩
 have D29 : Def l.prog w K mg base 1 "_law_rest" ["_law_a", "_law_b"] gz := ⟨f29, _, uW F29 T, b29, k29, PySem.W.mg_of X G a29⟩
 have D30 : Def l.prog w K mg base 102 "_law_due" ["_law_names", "_law_params", "_law_given_here"] kj := ⟨f30, _, rg fun fn => wA (k0 := 101) (fn := fn) (un := UN) F30 T (D26.up (by decide)) (D22.up (by decide)) (D29.up (by decide)), b30, k30, PySem.W.mg_of X G a30⟩
 have D31 : Def l.prog w K mg base 103 "_law_right" ["_law_script"] (kO K) := ⟨f31, _, qY (k0 := 102) F31 T (D20.up (by decide)) (D19.up (by decide)) (D25.up (by decide)) (D23.up (by decide)) (D27.up (by decide)) (D28.up (by decide)) (D30.up (by decide)) (D18.up (by decide)), b31, k31, PySem.W.mg_of X G a31⟩
 exact we (k0 := 103) F32 T (D31.up (by decide))
theorem walk {l : PySem.W.OpenLaw} {q : Program} {loose : List Str} {XP : (Str -> Option Value) -> Heap -> Prop} {YP : World -> Heap -> Prop} {d : DefRec} {K : Params -> PySem.W.Frag} (hn : l.most = some 63) (hdf : d.params.defaults = [])
  (hY : ∀ (w : World) (h : Heap), YP w h -> (K w.params).In h)
  (F : ∀ (w : World) (mg : Str -> Option Value) (fa : Addr) (h : Heap), (K w.params).In h -> h.Ns mainGlobals mg -> mg d.name = some (.ref fa) ->
   ∃ fd : FuncData, (∀ (s : Shared) (u : Value), BindsTo s fd ⟨[u], []⟩ [("_law_script", u)]) /\ ∀ base : Heap, (K w.params).In base -> base.Ns mainGlobals mg -> br l.prog w (K w.params) mg base CX0 104 fa fd ["_law_script"] (pO (K w.params))) :
  PySem.W.WalkO q loose XP YP l.row.toRowW d [] (fun f vs => PySem.call f vs) :=
 L2.walk_of (n := 63) (k := 104) (x := "_law_script") (CX := fun _ => CX0) (sp := fun w => pO (K w.params)) hn (by decide) hdf ⟨rfl, by decide, by decide⟩ hY F (fun _ _ a ns hl _ hS => ⟨a, ns, rfl, hS, hl, fun _ => rfl⟩) fun _ _ _ _ _ z => z
end K31
def PySem.W.Fast.tw12231134446803427578 : Nat := 0
def PySem.W.Fast.tw14476865149212851514 : Nat := 0
def PySem.W.Fast.tw13769574362797998815 : Nat := 0
def PySem.W.Fast.tw2207884524962493494 : Nat := 0
def PySem.W.Fast.tw2774316332764877806 : Nat := 0
def PySem.W.Fast.tw6134401830764167017 : Nat := 0
def PySem.W.Fast.tw4344417784022305086 : Nat := 0
def PySem.W.Fast.tw13280634650477824314 : Nat := 0
def PySem.W.Fast.tw8792671148380652003 : Nat := 0
def PySem.W.Fast.tw14291304850426083100 : Nat := 0
def PySem.W.Fast.tw3740901222632754063 : Nat := 0
def PySem.W.Fast.tw1070610897007403673 : Nat := 0
def PySem.W.Fast.tw3251269100582208230 : Nat := 0
def PySem.W.Fast.tw6610975569551748749 : Nat := 0
def PySem.W.Fast.tw5324143698345212556 : Nat := 0
def PySem.W.Fast.tw9004555166861276143 : Nat := 0
def PySem.W.Fast.tw8598644079320577653 : Nat := 0
def PySem.W.Fast.tw3875610147965262293 : Nat := 0
def PySem.W.Fast.tw7953925467602055065 : Nat := 0
def PySem.W.Fast.tw11561898428995474875 : Nat := 0
def PySem.W.Fast.tw3796730689989990052 : Nat := 0
def PySem.W.Fast.tw3330398528946225352 : Nat := 0
def PySem.W.Fast.tw1663736215177947383 : Nat := 0
def PySem.W.Fast.tw282073014332103268 : Nat := 0
def PySem.W.Fast.tw713305142886345743 : Nat := 0
def PySem.W.Fast.tw12251106477615509977 : Nat := 0
def PySem.W.Fast.tw1166678350675950340 : Nat := 0
def PySem.W.Fast.tw6989622017062444521 : Nat := 0
def PySem.W.Fast.tw14748166824166817041 : Nat := 0
def PySem.W.Fast.tw14708204369369250465 : Nat := 0
def PySem.W.Fast.tw1712300868250890309 : Nat := 0
def PySem.W.Fast.tw12397387907036798078 : Nat := 0
def PySem.W.Fast.tw15720042688923245968 : Nat := 0
def PySem.W.Fast.tw1416609080984541447 : Nat := 0
def PySem.W.Fast.tw4502468405451737376 : Nat := 0
def PySem.W.Fast.tw10167697543197947737 : Nat := 0
def PySem.W.Fast.tw8220173013617054297 : Nat := 0
open PySem PySem.W PyProof.Rows
set_option maxRecDepth 100000 in
set_option maxHeartbeats 0 in
theorem PySem.Challenge.cw_indexwise_k31_what_calls_bind_holds : PySem.Challenge.rw_indexwise_k31_what_calls_bind.Holds := by
 w_on; o_law; k_head; (case hw => w_witness2)
 k_fill
 refine K31.walk (l := PySem.Challenge.rw_indexwise_k31_what_calls_bind) rfl rfl (fun w h Y => PySem.W.kIn_of Y) ?F
 case F =>
  intro w mg fa h KX G hmg
  refine' K31.all_mk KX G hmg ?a1 ?l1 ?c1 ?k1 ?a2 ?l2 ?c2 ?k2 ?a3 ?l3 ?c3 ?k3 ?a4 ?l4 ?c4 ?k4 ?a5 ?l5 ?c5 ?k5 ?a6 ?l6 ?c6 ?k6 ?a7 ?l7 ?c7 ?k7 ?a8 ?l8 ?c8 ?k8 ?a9 ?l9 ?c9 ?k9 ?a10 ?l10 ?c10 ?k10 ?a11 ?l11 ?c11 ?k11 ?a12 ?l12 ?c12 ?k12 ?a13 ?l13 ?c13 ?k13 ?a14 ?l14 ?c14 ?k14 ?a15 ?l15 ?c15 ?k15 ?a16 ?l16 ?c16 ?k16 ?a17 ?l17 ?c17 ?k17 ?a18 ?l18 ?c18 ?k18 ?a19 ?l19 ?c19 ?k19 ?a20 ?l20 ?c20 ?k20 ?a21 ?l21 ?c21 ?k21 ?a22 ?l22 ?c22 ?k22 ?a23 ?l23 ?c23 ?k23 ?a24 ?l24 ?c24 ?k24 ?a25 ?l25 ?c25 ?k25 ?a26 ?l26 ?c26 ?k26 ?a27 ?l27 ?c27 ?k27 ?a28 ?l28 ?c28 ?k28 ?a29 ?l29 ?c29 ?k29 ?a30 ?l30 ?c30 ?k30 ?a31 ?l31 ?c31 ?k31 ?a32 ?l32 ?c32 ?k32 ?lT ?z1 ?z2 ?z3 ?z4 ?z5 ?z6 ?z7 ?z8 ?z9 ?z10 ?z11 ?z12 ?z13 ?z14
  (case a1 => k_is); (case l1 => k_is); (case c1 => k_is); (case k1 => k_is)
  (case a2 => k_is); (case l2 => k_is); (case c2 => k_is); (case k2 => k_is)
  (case a3 => k_is); (case l3 => k_is); (case c3 => k_is); (case k3 => k_is)
  (case a4 => k_is); (case l4 => k_is); (case c4 => k_is); (case k4 => k_is)
  (case a5 => k_is); (case l5 => k_is); (case c5 => k_is); (case k5 => k_is)
  (case a6 => k_is); (case l6 => k_is); (case c6 => k_is); (case k6 => k_is)
  (case a7 => k_is); (case l7 => k_is); (case c7 => k_is); (case k7 => k_is)
  (case a8 => k_is); (case l8 => k_is); (case c8 => k_is); (case k8 => k_is)
  (case a9 => k_is); (case l9 => k_is); (case c9 => k_is); (case k9 => k_is)
  (case a10 => k_is); (case l10 => k_is); (case c10 => k_is); (case k10 => k_is)
  (case a11 => k_is); (case l11 => k_is); (case c11 => k_is); (case k11 => k_is)
  (case a12 => k_is); (case l12 => k_is); (case c12 => k_is); (case k12 => k_is)
  (case a13 => k_is); (case l13 => k_is); (case c13 => k_is); (case k13 => k_is)
  (case a14 => k_is); (case l14 => k_is); (case c14 => k_is); (case k14 => k_is)
  (case a15 => k_is); (case l15 => k_is); (case c15 => k_is); (case k15 => k_is)
  (case a16 => k_is); (case l16 => k_is); (case c16 => k_is); (case k16 => k_is)
  (case a17 => k_is); (case l17 => k_is); (case c17 => k_is); (case k17 => k_is)
  (case a18 => k_is); (case l18 => k_is); (case c18 => k_is); (case k18 => k_is)
  (case a19 => k_is); (case l19 => k_is); (case c19 => k_is); (case k19 => k_is)
  (case a20 => k_is); (case l20 => k_is); (case c20 => k_is); (case k20 => k_is)
  (case a21 => k_is); (case l21 => k_is); (case c21 => k_is); (case k21 => k_is)
  (case a22 => k_is); (case l22 => k_is); (case c22 => k_is); (case k22 => k_is)
  (case a23 => k_is); (case l23 => k_is); (case c23 => k_is); (case k23 => k_is)
  (case a24 => k_is); (case l24 => k_is); (case c24 => k_is); (case k24 => k_is)
  (case a25 => k_is); (case l25 => k_is); (case c25 => k_is); (case k25 => k_is)
  (case a26 => k_is); (case l26 => k_is); (case c26 => k_is); (case k26 => k_is)
  (case a27 => k_is); (case l27 => k_is); (case c27 => k_is); (case k27 => k_is)
  (case a28 => k_is); (case l28 => k_is); (case c28 => k_is); (case k28 => k_is)
  (case a29 => k_is); (case l29 => k_is); (case c29 => k_is); (case k29 => k_is)
  (case a30 => k_is); (case l30 => k_is); (case c30 => k_is); (case k30 => k_is)
  (case a31 => k_is); (case l31 => k_is); (case c31 => k_is); (case k31 => k_is)
  (case a32 => k_is); (case l32 => k_is); (case c32 => k_is); (case k32 => k_is)
  (case lT => k_is)
  (case z1 => k_is); (case z2 => k_is); (case z3 => k_is); (case z4 => k_is); (case z5 => k_is); (case z6 => k_is); (case z7 => k_is); (case z8 => k_is); (case z9 => k_is); (case z10 => k_is); (case z11 => k_is); (case z12 => k_is); (case z13 => k_is); (case z14 => k_is)
