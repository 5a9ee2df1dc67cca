import PyProof.Rows.All
import Wide.All
import OpenK.AllK
import Wide.FinOn
import Lean
import PyProof.EqAt
import PyProof.EqKinds
import PyProof.TupleCall
import PySem.Challenge.RW_indexwise_k51_laid_and_raised
set_option Elab.async false
set_option linter.all false
set_option maxRecDepth 100000
set_option maxHeartbeats 3200000
local macro_rules | `(tactic| trivial) => `(tactic| first | exact .inl rfl | exact .inr (.inl rfl) | exact .inr (.inr rfl) | exact .inr rfl | assumption)
namespace L2
open PySem PySem.Spec PyProof.Rows
abbrev Key := Sum Int Str
def iJ : Key -> Value -> Bool
 | .inl k, v => Value.isInt k v
 | .inr x, v => Value.isStrOf x v
def wm (w : World) : Key -> Int
 | .inl k => hashInt k
 | .inr x => hashStr w x
theorem bi : ∀ {k : Key} {v : Value}, iJ k v = true -> (∃ i t, k = Sum.inl i /\ v = Value.int i t) \/ (∃ x t, k = Sum.inr x /\ v = Value.str x t)
 | .inl i, v, h => by
  obtain ⟨t, e⟩ := Value.isInt_shape (k := i) (v := v) h
  exact .inl ⟨i, t, rfl, e⟩
 | .inr x, v, h => by
  obtain ⟨t, e⟩ := Value.isStrOf_shape (x := x) (v := v) h
  exact .inr ⟨x, t, rfl, e⟩
theorem ow (i : Int) (t : Tok) : iJ (.inl i) (.int i t) = true := by simp [iJ, Value.isInt]
theorem oY (x : Str) (t : Tok) : iJ (.inr x) (.str x t) = true := by simp [iJ, Value.isStrOf]
theorem uw (a b : Int) : decide ((Sum.inl a : Key) = Sum.inl b) = (a == b) := by
 by_cases e : a = b
 ·subst e; simp
 ·have h : ¬ (Sum.inl a : Key) = Sum.inl b := fun q => e (Sum.inl.inj q)
  rw [decide_eq_false h]
  exact (beq_eq_false_iff_ne.mpr e).symm
theorem uE (a b : Str) : decide ((Sum.inr a : Key) = Sum.inr b) = decide (a = b) := by
 by_cases e : a = b
 ·subst e; simp
 ·have h : ¬ (Sum.inr a : Key) = Sum.inr b := fun q => e (Sum.inr.inj q)
  rw [decide_eq_false h, decide_eq_false e]
theorem uN (a : Int) (b : Str) : decide ((Sum.inl a : Key) = Sum.inr b) = false := decide_eq_false (fun q => nomatch q)
theorem uk (a : Str) (b : Int) : decide ((Sum.inr a : Key) = Sum.inl b) = false := decide_eq_false (fun q => nomatch q)
def aA (prog : Program) (w : World) : PySem.KeyKind prog w Key where
 is := iJ
 hash := wm w
 inj := fun v a b ha hb => by
  rcases bi ha with ⟨i, t, rfl, rfl⟩ | ⟨x, t, rfl, rfl⟩
  ·rcases bi hb with ⟨j, u, rfl, e⟩ | ⟨y, u, rfl, e⟩
   ·injection e with e1 _; rw [e1]
   ·exact nomatch e
  ·rcases bi hb with ⟨j, u, rfl, e⟩ | ⟨y, u, rfl, e⟩
   ·exact nomatch e
   ·injection e with e1 _; rw [e1]
 byValue := fun k v h => by
   rcases bi h with ⟨i, t, rfl, rfl⟩ | ⟨x, t, rfl, rfl⟩ <;> rfl
 pyHash := fun hv h => by
  rcases bi hv with ⟨i, t, rfl, rfl⟩ | ⟨x, t, rfl, rfl⟩
  ·exact wpAny_pyHash_int h
  ·exact wpAny_pyHash_str h
 eqBool := fun hu hv h => by
  rcases bi hu with ⟨i, t, rfl, rfl⟩ | ⟨x, t, rfl, rfl⟩
  ·rcases bi hv with ⟨j, u, rfl, rfl⟩ | ⟨y, u, rfl, rfl⟩
   ·rw [uw] at h; exact wpAny_eqBool_int h
   ·rw [uN] at h; exact SeqAt.EqAt.int_str i t y u _ _ _ _ h
  ·rcases bi hv with ⟨j, u, rfl, rfl⟩ | ⟨y, u, rfl, rfl⟩
   ·rw [uk] at h; exact SeqAt.EqAt.str_int x t j u _ _ _ _ h
   ·rw [uE] at h; exact wpAny_eqBool_str h
 «strs» := fun k x t v h => by
  rcases bi h with ⟨i, u, rfl, e⟩ | ⟨y, u, rfl, e⟩
  ·exact nomatch e
  ·injection e with e1 _
   subst e1
   cases v <;> rfl
theorem lB (prog : Program) (w : World) (i : Int) (t : Tok) : (aA prog w).is (.inl i) (.int i t) = true := ow i t
theorem kW (prog : Program) (w : World) (x : Str) (t : Tok) : (aA prog w).is (.inr x) (.str x t) = true := oY x t
inductive V where
 | non | bl (b : Bool) | int (i : Int) | str (x : Str) | byt (b : Array UInt8) | flt (b : UInt64) | ref (a : Addr) | ty (n : String)
 deriving DecidableEq
def aR : V -> Value -> Prop
 | .non, u => u = Value.none
 | .bl b, u => u = Value.bool b
 | .int i, u => ∃ t, u = Value.int i t
 | .str x, u => ∃ t, u = Value.str x t
 | .byt b, u => ∃ t, u = Value.bytes b t
 | .flt b, u => ∃ t, u = Value.float b t
 | .ref a, u => u = Value.ref a
 | .ty n, u => u = Value.type n
abbrev aF : List V -> List Value -> Prop := Paired aR
theorem aF.length {xs : List V} {us : List Value} (r : aF xs us) : xs.length = us.length := Paired.length r
theorem aF.get : ∀ {xs : List V} {us : List Value} {i : Nat} {x : V}, aF xs us -> xs[i]? = some x -> ∃ u, us[i]? = some u /\ aR x u
 | _, _, _, _, .nil, e => by simp at e
 | _, _, 0, _, .cons r _, e => by simp at e; subst e; exact ⟨_, rfl, r⟩
 | _, _, i + 1, x, .cons _ t, e => by
  obtain ⟨u, h1, h2⟩ := aF.get (i := i) (x := x) t (by simpa using e)
  exact ⟨u, by simpa using h1, h2⟩
theorem aF.set {x : V} {u : Value} (r : aR x u) : ∀ {xs : List V} {us : List Value} (i : Nat), aF xs us -> aF (xs.set i x) (us.set i u)
 | _, _, _, .nil => .nil
 | _, _, 0, .cons _ t => .cons r t
 | _, _, i + 1, .cons q t => .cons q (aF.set r i t)
theorem aF.append : ∀ {xs ys : List V} {us ws : List Value}, aF xs us -> aF ys ws -> aF (xs ++ ys) (us ++ ws)
 | _, _, _, _, .nil, s => s
 | _, _, _, _, .cons r t, s => .cons r (aF.append t s)
theorem aF.take : ∀ {xs : List V} {us : List Value} (n : Nat), aF xs us -> aF (xs.take n) (us.take n)
 | _, _, 0, _ => .nil
 | _, _, _ + 1, .nil => .nil
 | _, _, n + 1, .cons r t => .cons r (aF.take n t)
theorem aF.drop : ∀ {xs : List V} {us : List Value} (n : Nat), aF xs us -> aF (xs.drop n) (us.drop n)
 | _, _, 0, r => r
 | _, _, _ + 1, .nil => .nil
 | _, _, n + 1, .cons _ t => aF.drop n t
def fz : Option V -> Option Value -> Prop
 | some v, some u => aR v u
 | none, none => True
 | _, _ => False
def KV {κ : Type} : List (κ × V) -> List (κ × Value) -> Prop := Paired fun (p : κ × V) (q : κ × Value) => p.1 = q.1 /\ aR p.2 q.2
def kV : Key -> V
 | .inl i => .int i
 | .inr x => .str x
inductive HO where
 /-- a list -/
 | lst (xs : List V)
 /-- a tuple (never changes) -/
 | tup (xs : List V)
 /-- a dict whose keys are ints and texts; one whose keys are tuples of ints and texts (the empty one is both) -/
 | dK (kvs : List (Key × V)) | dT (kvs : List (List Key × V))
 /-- a set of ints: its members, its size -/
 | set (S : Int -> Bool) (n : Nat)
 /-- an instance of the class at C, its dict at dx, its attributes -/
 | ins (C dx : Addr) (fs : List (Str × V))
 /-- the dict of the instance at x -/
 | own (x : Addr)
 /-- the dict of an exception -/
 | xd (fs : List (Str × V))
 /-- a bound method, f of x -/
 | met (f x : Addr)
 /-- a range object lo, lo + 1, .. below hi -/
 | rng (lo hi : Int)
 /-- a thing that is known to the object (the script; a dict while a loop walks it): read, never written while it is so -/
 | frz (o : Obj) (u : HO)
 /-- a code object's table -/
 | tbl (ps : Array Value)
 /-- any other thing, by what is true of its one object (a def of one's own: SetO a S n := HO.ext fun h => ..) -/
 | ext (φ : Heap -> Prop)
abbrev Hp := Addr -> Option HO
def upd (H : Hp) (a : Addr) (o : HO) : Hp := fun b => if b = a then some o else H b
theorem ad {H : Hp} {a : Addr} {o : HO} : upd H a o a = some o := by unfold upd; rw [if_pos rfl]
theorem au {H : Hp} {a b : Addr} {o : HO} (h : b ≠ a) : upd H a o b = H b := by unfold upd; rw [if_neg h]
theorem jq {H : Hp} {a : Addr} {o u : HO} : upd (upd H a o) a u = upd H a u := by
 funext b; unfold upd; split <;> rfl
theorem gU {H : Hp} {a b : Addr} {o u : HO} (h : H a = some o) (h' : H b = some u) (d : o ≠ u) : a ≠ b := by
 intro e; subst e; rw [h] at h'; exact d (Option.some.inj h')
theorem ap {H : Hp} {a b : Addr} {o : HO} (h : H a = some o) (h' : H b = none) : a ≠ b := by
 intro e; subst e; rw [h] at h'; cases h'
def NoD (h : Heap) (a : Addr) : Prop := ∃ o, h.get? a = some o /\ o.dict = none
theorem NoD.new (h : Heap) {o : Obj} (e : o.dict = none) (f : o.isFreed = false := by rfl) : NoD (h.push o) h.objs.size := ⟨_, Heap.get?_push_size _ f, e⟩
section
variable (P : Program) (w : World)
def aU (H : Hp) (h : Heap) (a : Addr) : HO -> Prop
 | .lst xs => xs.length <= sizeLine /\ ∃ (its : List Value) (n : Nat), aF xs its /\ h.get? a = some { cls := .type "list", data := .seq its.toArray n }
 | .tup xs => xs.length <= sizeLine /\ ∃ its : List Value, aF xs its /\ IsTup h a its.toArray /\ NoD h a
 | .dK kvs => kvs.length <= sizeLine /\ (a == sysModules) = false /\ ∃ vs, KV kvs vs /\ h.DictOf (aA P w) a vs
 | .dT kvs => kvs.length <= sizeLine /\ (a == sysModules) = false /\ ∃ xs : List (List Key × Addr × Value),
   Paired (fun (p : List Key × V) (q : List Key × Addr × Value) => p.1 = q.1 /\ H q.2.1 = some (.tup (p.1.map kV)) /\ aR p.2 q.2.2) kvs xs /\
   ∃ o es ep, h.get? a = some o /\ o.ExactDict /\ o.data = .dict es ep /\ es.toList = xs.map (entryOfKey (tupleKind (aA P w))) /\ (xs.map (·.1)).Nodup
 | .set S n => h.SetOf (intKind P w) a S n
 | .ins C dx fs => H dx = some (.own a) /\ fs.length <= 1000 /\ dx ≠ a /\ h.get? a = some (PySem.W.instObj C dx) /\
   ∃ mA, h.Ns1 dx mA /\ (∀ f, fz (fs.lookup f) (mA f)) /\ PySem.Within mA (fs.map (·.1))
 | .own _ => ∃ o, h.get? a = some o
 | .xd fs => ∃ mA, h.Ns1 a mA /\ ∀ f, fz (fs.lookup f) (mA f)
 | .rng lo hi => ∃ t u v, h.get? a = some { cls := .type "range", data := .fields #[.int lo t, .int hi u, .int 1 v] }
 | .frz o u => h.get? a = some o /\ aU H h a u
 | .tbl ps => h.get? a = some { cls := .none, data := .fields ps }
 | .met f x => h.get? a = some (PySem.W.methodObj (.ref f) (.ref x))
 | .ext φ => φ h /\ (∃ o, h.get? a = some o) /\ ∀ h1 h2 : Heap, φ h1 -> (∀ o, h1.get? a = some o -> h2.get? a = some o) -> φ h2
def HOk (H : Hp) (h : Heap) : Prop := ∀ a o, H a = some o -> aU P w H h a o
end
section
variable {P : Program} {w : World} {H H' : Hp} {h h' : Heap} {a : Addr} {o : HO}
theorem aU.lt (x : aU P w H h a o) : a < h.objs.size := by
 cases o with
 | lst xs => obtain ⟨_, _, _, _, e⟩ := x; exact Heap.lt_size e
 | tup xs => obtain ⟨_, _, _, p⟩ := x; exact p.1.lt
 | dK kvs => obtain ⟨_, _, _, _, o, _, _, e, _⟩ := x; exact Heap.lt_size e
 | dT kvs => obtain ⟨_, _, _, _, o, _, _, e, _⟩ := x; exact Heap.lt_size e
 | set S n => obtain ⟨o, _, _, _, e, _⟩ := x; exact Heap.lt_size e
 | ins C dx fs => obtain ⟨_, _, _, e, _⟩ := x; exact Heap.lt_size e
 | own y => obtain ⟨_, e⟩ := x; exact Heap.lt_size e
 | xd fs => obtain ⟨_, ⟨_, _, _, e, _⟩, _⟩ := x; exact Heap.lt_size e
 | rng lo hi => obtain ⟨_, _, _, e⟩ := x; exact Heap.lt_size e
 | frz ob u => obtain ⟨e, _⟩ := x; exact Heap.lt_size e
 | tbl ps => exact Heap.lt_size (show h.get? a = some _ from x)
 | met f y => exact Heap.lt_size (show h.get? a = some _ from x)
 | ext φ => obtain ⟨_, ⟨_, e⟩, _⟩ := x; exact Heap.lt_size e
theorem Paired.mapP {α β : Type} {F G : α -> β -> Prop} : ∀ {l₁ : List α} {l₂ : List β}, Paired F l₁ l₂ -> (∀ a b, F a b -> G a b) -> Paired G l₁ l₂
 | _, _, .nil, _ => .nil
 | _, _, .cons r t, f => .cons (f _ _ r) (Paired.mapP t f)
theorem aU.stay (x : aU P w H h a o) (k : ∀ b u, (b = a \/ H b = some (.own a)) -> h.get? b = some u -> h'.get? b = some u)
  (ho : ∀ b, H b = some (.own a) -> H' b = some (.own a)) (ht : ∀ b xs, H b = some (.tup xs) -> H' b = some (.tup xs)) : aU P w H' h' a o := by
 induction o with
 | lst xs => obtain ⟨z, its, n, r, e⟩ := x; exact ⟨z, its, n, r, k _ _ (.inl rfl) e⟩
 | tup xs => obtain ⟨z, its, r, ⟨ob, e, c⟩, od, e2, c2⟩ := x; exact ⟨z, its, r, ⟨ob, k _ _ (.inl rfl) e, c⟩, od, k _ _ (.inl rfl) e2, c2⟩
 | dK kvs => obtain ⟨z, y, vs, r, ob, es, ep, e, c⟩ := x; exact ⟨z, y, vs, r, ob, es, ep, k _ _ (.inl rfl) e, c⟩
 | dT kvs =>
  obtain ⟨z, y, xs, r, ob, es, ep, e, c⟩ := x
  exact ⟨z, y, xs, Paired.mapP r fun p q z => ⟨z.1, ht _ _ z.2.1, z.2.2⟩, ob, es, ep, k _ _ (.inl rfl) e, c⟩
 | set S n => obtain ⟨ob, es, ep, t, e, c⟩ := x; exact ⟨ob, es, ep, t, k _ _ (.inl rfl) e, c⟩
 | ins C dx fs =>
  obtain ⟨d, z, ne, e, mA, ⟨od, es, ep, e2, c⟩, r⟩ := x
  exact ⟨ho _ d, z, ne, k _ _ (.inl rfl) e, mA, ⟨od, es, ep, k _ _ (.inr d) e2, c⟩, r⟩
 | own y => obtain ⟨ob, e⟩ := x; exact ⟨ob, k _ _ (.inl rfl) e⟩
 | xd fs => obtain ⟨mA, ⟨od, es, ep, e, c⟩, r⟩ := x; exact ⟨mA, ⟨od, es, ep, k _ _ (.inl rfl) e, c⟩, r⟩
 | rng lo hi => obtain ⟨t, u, v, e⟩ := x; exact ⟨t, u, v, k _ _ (.inl rfl) e⟩
 | frz ob u ih => obtain ⟨e, q⟩ := x; exact ⟨k _ _ (.inl rfl) e, ih q⟩
 | tbl ps =>
  have e : h.get? a = some { cls := .none, data := .fields ps } := x
  show h'.get? a = some { cls := .none, data := .fields ps }
  exact k a _ (.inl rfl) e
 | met f y =>
  have e : h.get? a = some (PySem.W.methodObj (.ref f) (.ref y)) := x
  show h'.get? a = some (PySem.W.methodObj (.ref f) (.ref y))
  exact k a _ (.inl rfl) e
 | ext φ => obtain ⟨p, ⟨o, e⟩, st⟩ := x; exact ⟨st _ _ p fun o q => k _ _ (.inl rfl) q, ⟨o, k _ _ (.inl rfl) e⟩, st⟩
theorem HOk.lt (x : HOk P w H h) (e : H a = some o) : a < h.objs.size := (x a o e).lt
theorem HOk.fresh (x : HOk P w H h) (e : h.objs.size <= a) : H a = none := by
 cases q : H a with
 | none => rfl
 | some u => exact absurd (Nat.lt_of_lt_of_le (x.lt q) e) (Nat.lt_irrefl _)
theorem HOk.kept (x : HOk P w H h) (k : ∀ b u, h.get? b = some u -> h'.get? b = some u) : HOk P w H h' := fun a o e =>
 (x a o e).stay (fun b u _ q => k b u q) (fun _ q => q) fun _ _ q => q
theorem HOk.laid (x : HOk P w H h) (k : ∀ b u, h.get? b = some u -> h'.get? b = some u) (hp : h.objs.size <= a) (new : aU P w (upd H a o) h' a o) : HOk P w (upd H a o) h' := fun b u e => by
 have hn := x.fresh hp
 by_cases hb : b = a
 ·subst hb; rw [ad] at e; cases e; exact new
 ·rw [au hb] at e
  exact (x b u e).stay (fun c v _ q => k c v q) (fun c q => by rw [au (ap q hn)]; exact q) fun c xs q => by rw [au (ap q hn)]; exact q
end
def Rd (H : Hp) (a : Addr) (u : HO) : Prop := H a = some u \/ ∃ o, H a = some (.frz o u)
theorem Rd.of {H : Hp} {a : Addr} {u : HO} (h : H a = some u) : Rd H a u := .inl h
theorem Rd.ok {P : Program} {w : World} {H : Hp} {h : Heap} {a : Addr} {u : HO} (r : Rd H a u) (x : HOk P w H h) : aU P w H h a u := by
 rcases r with r | ⟨o, r⟩
 ·exact x a u r
 ·obtain ⟨_, q⟩ := x a _ r
  exact q
def Mut : Option HO -> Prop
 | some (.lst _) => True
 | some (.dK _) => True
 | some (.dT _) => True
 | some (.set _ _) => True
 | some (.ins _ _ _) => True
 | some (.ext _) => True
 | _ => False
section
variable {P : Program} {w : World} {H : Hp} {h h' : Heap} {x e : Addr} {o' : HO}
theorem HOk.write (ok : HOk P w H h) (mu : Mut (H x)) (he : e = x \/ H e = some (.own x)) (k : ∀ b u, b ≠ e -> h.get? b = some u -> h'.get? b = some u) (heo : ∃ u, h'.get? e = some u)
  (new : aU P w (upd H x o') h' x o') : HOk P w (upd H x o') h' := fun b u q => by
 have nown : ∀ c y, H c = some (.own y) -> c ≠ x := fun c y r z => by subst z; rw [r] at mu; exact mu
 have ntup : ∀ c xs, H c = some (.tup xs) -> c ≠ x := fun c xs r z => by subst z; rw [r] at mu; exact mu
 by_cases hb : b = x
 ·subst hb; rw [ad] at q; cases q; exact new
 ·rw [au hb] at q
  by_cases hbe : b = e
  ·have q' : H b = some (.own x) := by
    rcases he with z | z
    ·exact absurd (hbe.trans z) hb
    ·rw [hbe]; exact z
   rw [q] at q'; cases q'
   obtain ⟨v, hv⟩ := heo
   exact ⟨v, by rw [hbe]; exact hv⟩
  ·refine (ok b u q).stay (fun c v hc r => k c v ?_ r) (fun c r => by rw [au (nown c b r)]; exact r) fun c xs r => by rw [au (ntup c xs r)]; exact r
   rcases hc with rfl | hc
   ·exact hbe
   ·rintro rfl
    rcases he with z | z
    ·exact nown c b hc z
    ·rw [hc] at z; cases z; exact hb rfl
end
structure Un (fs ex : List Addr) (H H' : Hp) (h h' : Heap) : Prop where
 keep : ∀ b o, h.get? b = some o -> H b = none -> b ∉ fs -> b ∉ ex -> h'.get? b = some o
 slot : ∀ b o, h.get? b = some o -> H b = none -> b ∈ fs -> b ∉ ex -> ∃ sl, h'.get? b = some { o with slots := sl }
 free : ∀ b o, h.get? b = some o -> H b = none -> b ∉ ex -> H' b = none
 there : ∀ b o, h.get? b = some o -> b ∉ ex -> ∃ o', h'.get? b = some o'
 tups : ∀ b xs, H b = some (.tup xs) -> H' b = some (.tup xs)
 frzs : ∀ b o u, H b = some (.frz o u) -> H' b = some (.frz o u)
 tbls : ∀ b ps, H b = some (.tbl ps) -> ∃ more, H' b = some (.tbl (ps ++ more))
section
variable {fs fs' ex ex' : List Addr} {H H1 H2 : Hp} {h h1 h2 h' : Heap} {a x e : Addr} {o : HO}
theorem Un.any (u : Un fs ex H H1 h h1) {b : Addr} {ob : Obj} (q : h.get? b = some ob) (n : H b = none) (hx : b ∉ ex) : ∃ sl, h1.get? b = some { ob with slots := sl } := by
 by_cases hb : b ∈ fs
 ·exact u.slot b ob q n hb hx
 ·exact ⟨ob.slots, u.keep b ob q n hb hx⟩
theorem Un.kept (k : ∀ b u, h.get? b = some u -> h'.get? b = some u) : Un fs ex H H h h' :=
 ⟨fun b ob q _ _ _ => k b ob q, fun b ob q _ _ _ => ⟨ob.slots, k b ob q⟩, fun _ _ _ n _ => n, fun b ob q _ => ⟨ob, k b ob q⟩, fun _ _ q => q, fun _ _ _ q => q, fun _ ps q => ⟨#[], by rw [q]; simp⟩⟩
theorem Un.refl : Un fs ex H H h h := Un.kept fun _ _ q => q
theorem Un.laid (k : ∀ b u, h.get? b = some u -> h'.get? b = some u) (hp : h.objs.size <= a) (hn : H a = none) : Un fs ex H (upd H a o) h h' where
 keep := fun b u q _ _ _ => k b u q
 slot := fun b u q _ _ _ => ⟨u.slots, k b u q⟩
 free := fun b u q n _ => by rw [au (Nat.ne_of_lt (Nat.lt_of_lt_of_le (Heap.lt_size q) hp))]; exact n
 there := fun b u q _ => ⟨u, k b u q⟩
 tups := fun b xs q => by rw [au (ap q hn)]; exact q
 frzs := fun b u xs q => by rw [au (ap q hn)]; exact q
 tbls := fun b ps q => ⟨#[], by rw [au (ap q hn), q]; simp⟩
theorem Un.write (mu : Mut (H x)) (he : e = x \/ H e = some (.own x)) (k : ∀ b u, b ≠ e -> h.get? b = some u -> h'.get? b = some u) (heo : ∃ u, h'.get? e = some u) : Un fs ex H (upd H x o) h h' := by
 have hx : ∀ b, H b = none -> b ≠ x := fun b n z => by subst z; rw [n] at mu; exact mu
 have hb : ∀ b, H b = none -> b ≠ e := fun b n z => by
  subst z
  rcases he with r | r
  ·exact hx b n r
  ·rw [n] at r; cases r
 have hm : ∀ b u, H b = some u -> ¬ Mut (some u) -> b ≠ x := fun b u q nm z => by subst z; rw [q] at mu; exact nm mu
 refine ⟨fun b u q n _ _ => k b u (hb b n) q, fun b u q n _ _ => ⟨u.slots, k b u (hb b n) q⟩, fun b u q n _ => by rw [au (hx b n)]; exact n, fun b u q _ => ?_,
  fun b xs q => by rw [au (hm b _ q fun z => z)]; exact q, fun b u xs q => by rw [au (hm b _ q fun z => z)]; exact q, fun b ps q => ⟨#[], by rw [au (hm b _ q fun z => z), q]; simp⟩⟩
 by_cases hbe : b = e
 ·subst hbe; exact heo
 ·exact ⟨u, k b u hbe q⟩
end
def trk (h : Heap) (H : Hp) : List Addr := (List.range h.objs.size).filter fun a => (H a).isSome
def kw (h : Heap) (H : Hp) : Heap := PySem.W.hideAll h (trk h H)
theorem oR (h : Heap) (H : Hp) : (kw h H).objs.size = h.objs.size := PySem.W.hideAll_size _ _
theorem qp {h : Heap} {H : Hp} {b : Addr} {o : Obj} (e : h.get? b = some o) (n : H b = none) : (kw h H).get? b = some o :=
 PySem.W.hideAll_get _ e fun hm => by
  have q : (H b).isSome = true := (List.mem_filter.mp hm).2
  rw [n] at q; simp at q
theorem rP {h : Heap} {H : Hp} {b : Addr} {o : Obj} (e : (kw h H).get? b = some o) : h.get? b = some o /\ H b = none := by
 have e' : h.get? b = some o := PySem.W.of_hideAll (trk h H) e
 refine ⟨e', ?_⟩
 cases q : H b with
 | none => rfl
 | some x =>
  have hm : b ∈ trk h H := List.mem_filter.mpr ⟨List.mem_range.mpr (Heap.lt_size e'), by simp [q]⟩
  have z : (kw h H).get? b = none := PySem.W.hideAll_none (trk h H) hm
  rw [z] at e; cases e
def gE (g h : Heap) (L : Addr) : List (Addr × Obj) := (List.range h.objs.size).filterMap fun a => if a = L \/ (g.get? a).isSome = true then none else (h.get? a).map fun o => (a, o)
theorem lg {g h : Heap} {L a : Addr} {o : Obj} (h1 : a ≠ L) (h2 : g.get? a = none) (h3 : h.get? a = some o) : (a, o) ∈ gE g h L :=
 List.mem_filterMap.mpr ⟨a, List.mem_range.mpr (Heap.lt_size h3), by simp [h1, h2, h3]⟩
theorem hZ {g h : Heap} {L : Addr} {p : Addr × Obj} (hp : p ∈ gE g h L) : p.1 ≠ L /\ g.get? p.1 = none /\ h.get? p.1 = some p.2 := by
 obtain ⟨b, _, e⟩ := List.mem_filterMap.mp hp
 split at e
 ·cases e
 ·rename_i hn
  cases q : h.get? b with
  | none => rw [q] at e; simp at e
  | some u =>
   rw [q] at e
   simp only [Option.map_some, Option.some.injEq] at e
   subst e
   refine ⟨fun z => hn (.inl z), ?_, q⟩
   show g.get? b = none
   cases r : g.get? b with
   | none => rfl
   | some v => exact (hn (.inr (by simp [r]))).elim
theorem pG {g h : Heap} {L : Addr} : News g L h (gE g h L) := fun p hp => let ⟨a, b, c⟩ := hZ hp; ⟨c, a, b⟩
structure Mod (K : PySem.W.Frag) (mg : Str -> Option Value) (base : Heap) : Prop where
 kin : K.In base
 glob : base.Ns mainGlobals mg
 blt : ∃ mb, base.Ns builtinsNs mb /\ ∀ x : Str, x ≠ "__name__" -> mb x = bootBuiltins x
 nolimit : base.NoLimit
structure Cx where
 prog : Program
 w : World
 K : PySem.W.Frag
 mg : Str -> Option Value
 base : Heap
 A : Around
 N : List Str
 s₀ : Shared
 H₀ : Hp
 env : Env
 outer : List Env
 stack : List Env
 ex : List Addr
 fn : Str -> Bool
 calm : Bool
 pn : List (Addr × Obj)
 xe : Value -> Shared -> Prop
def frs (l : List Env) : List Addr := l.filterMap (·.frame)
abbrev Cx.fs (X : Cx) : List Addr := frs X.outer
def Vis (sc : Scope) (x : Str) : Prop := sc.names.lookup x = some .local \/ sc.names.lookup x = some .cell \/ sc.names.lookup x = some .free
def Loc (sc : Scope) (x : Str) : Prop := sc.names.lookup x = some .local \/ sc.names.lookup x = some .cell
def ww (env : Env) (h : Heap) (m : Str -> Option Value) (x : Str) (u : Value) : Prop :=
 (env.kindOf x = some .local /\ m x = some u) \/ ((env.kindOf x = some .cell \/ env.kindOf x = some .free) /\ ∃ c, env.cells.lookup x = some c /\ h.IsCell c (some u))
structure Cx.Ok (X : Cx) : Prop where
 mod : Mod X.K X.mg X.base
 kind : X.env.scope.kind = .function
 glob : X.env.globals = mainGlobals
 blt : X.env.builtins = builtinsNs
 above : X.s₀.heap.objs.size <= X.env.locals
 inj : ∀ x y c, X.env.cells.lookup x = some c -> X.env.cells.lookup y = some c -> x = y
 has : ∀ x, (X.env.kindOf x = some .cell \/ X.env.kindOf x = some .free) -> ∃ c, X.env.cells.lookup x = some c
 cab : ∀ x c, X.fn x = true -> X.env.cells.lookup x = some c -> X.s₀.heap.objs.size <= c
 hd : X.calm = true -> X.A.handled = none
 frames : X.A.frames = some X.stack
 stk : X.stack = X.outer \/ (X.stack = X.env :: X.outer /\ X.env.frame = some X.env.locals)
 exf : ∀ b ∈ X.ex, b ≠ X.env.locals /\ ∀ x c, X.env.cells.lookup x = some c -> c ≠ b
 bs : ∀ b o, X.base.get? b = some o -> X.s₀.heap.get? b = some o /\ X.H₀ b = none
 bsz : X.base.objs.size <= X.s₀.heap.objs.size
 noex : ∀ b o, X.base.get? b = some o -> b ∉ X.ex
 exfs : ∀ b ∈ X.ex, b ∉ X.fs
 funs : X.s₀.heap.FunFrames X.base X.outer
 frf : ∀ b ∈ X.fs, X.H₀ b = none
structure Inv (X : Cx) (pins : List (Addr × Obj)) (σ : List (Option V)) (H : Hp) (s : Shared) : Prop where
 ok : X.Ok
 os : s.os = X.s₀.os
 bare : AllBare s.gens
 base : Un X.fs X.ex X.H₀ H X.s₀.heap s.heap
 loc : ∃ m, s.heap.Ns X.env.locals m /\ ∀ (i : Nat) (x : Str) (v : V), X.N[i]? = some x -> σ[i]? = some (some v) -> Vis X.env.scope x -> ∃ u, aR v u /\ ww X.env s.heap m x u
 cell : ∀ x c, X.env.cells.lookup x = some c -> ∃ v, s.heap.IsCell c v
 free : H X.env.locals = none
 freeC : ∀ x c, X.env.cells.lookup x = some c -> H c = none
 pin : ∀ p ∈ X.pn ++ pins, s.heap.get? p.1 = some p.2 /\ H p.1 = none /\ p.1 ≠ X.env.locals /\ p.1 ∉ X.fs /\ ∀ v, p.2.data ≠ .cell v
 hok : HOk X.prog X.w H s.heap
 len : σ.length = X.N.length
section
variable {X : Cx} {pins : List (Addr × Obj)} {σ : List (Option V)} {H H' : Hp} {s : Shared} {h' : Heap}
theorem Cx.Ok.nofr (ok : X.Ok) {b : Addr} {o : Obj} (e : X.base.get? b = some o) : b ∉ X.fs := fun hb => by
 have := (ok.funs.mem hb).1
 rw [e] at this; cases this
theorem Inv.bs (I : Inv X pins σ H s) : ∀ b o, X.base.get? b = some o -> s.heap.get? b = some o /\ H b = none := fun b o e =>
 ⟨I.base.keep b o (I.ok.bs b o e).1 (I.ok.bs b o e).2 (I.ok.nofr e) (I.ok.noex b o e), I.base.free b o (I.ok.bs b o e).1 (I.ok.bs b o e).2 (I.ok.noex b o e)⟩
theorem Inv.bk (I : Inv X pins σ H s) : ∀ b o, X.base.get? b = some o -> s.heap.get? b = some o := fun b o e => (I.bs b o e).1
theorem Inv.mod (I : Inv X pins σ H s) : Mod X.K X.mg X.base := I.ok.mod
theorem Inv.kIn (I : Inv X pins σ H s) : X.K.In s.heap := I.ok.mod.kin.keeps I.bk
theorem Inv.lt (I : Inv X pins σ H s) : X.env.locals < s.heap.objs.size := let ⟨_, hn, _⟩ := I.loc; hn.lt
theorem Inv.sz (I : Inv X pins σ H s) : X.s₀.heap.objs.size <= s.heap.objs.size := Nat.le_trans I.ok.above (Nat.le_of_lt I.lt)
theorem Inv.nofs (I : Inv X pins σ H s) {a : Addr} (h : s.heap.objs.size <= a) : a ∉ X.fs := fun hb => by
 obtain ⟨_, o, ho, _⟩ := I.ok.funs.mem hb
 exact absurd (Nat.lt_of_lt_of_le (Heap.lt_size ho) (Nat.le_trans I.sz h)) (Nat.lt_irrefl _)
theorem Inv.cne (I : Inv X pins σ H s) : ∀ x c, X.env.cells.lookup x = some c -> c ≠ X.env.locals := fun x c e z => by
 obtain ⟨v, o, ho, hd⟩ := I.cell x c e
 obtain ⟨m, ⟨o', es, ep, ho', hd', _⟩, _⟩ := I.loc
 rw [z, ho'] at ho; cases ho; rw [hd'] at hd; cases hd
theorem Inv.funs (I : Inv X pins σ H s) : s.heap.FunFrames X.base X.outer := by
 have all : ∀ (l : List Env), (∀ b ∈ frs l, b ∈ X.fs) -> X.s₀.heap.FunFrames X.base l -> s.heap.FunFrames X.base l := by
  intro l
  induction l with
  | nil => intro _ _; trivial
  | cons env r ih =>
   intro hs hl
   obtain ⟨hk, ⟨L, o, hf, hn, ho, hd⟩, hr⟩ := hl
   have hL : L ∈ X.fs := hs L (by unfold frs; rw [List.filterMap_cons, hf]; exact List.mem_cons_self)
   obtain ⟨sl, e⟩ := I.base.slot L o ho (I.ok.frf L hL) hL fun z => I.ok.exfs L z hL
   exact ⟨hk, ⟨L, _, hf, hn, e, hd⟩, ih (fun b hb => hs b (by unfold frs; rw [List.filterMap_cons, hf]; exact List.mem_cons_of_mem _ hb)) hr⟩
 exact all X.outer (fun _ hb => hb) I.ok.funs
theorem Inv.stack (I : Inv X pins σ H s) : s.heap.FunFrames X.base X.stack := by
 rcases I.ok.stk with e | ⟨e, hf⟩
 ·rw [e]; exact I.funs
 ·rw [e]
  obtain ⟨m, hn, _⟩ := I.loc
  refine .cons (by rw [I.ok.kind]; decide) hf hn ?_ I.funs
  exact Heap.get?_none_of_le (Nat.le_trans I.ok.bsz I.ok.above)
theorem Inv.stkSub (I : Inv X pins σ H s) : ∀ b ∈ frs X.stack, b ∈ X.env.locals :: X.fs := fun b hb => by
 rcases I.ok.stk with e | ⟨e, hf⟩
 ·rw [e] at hb; exact List.mem_cons_of_mem _ hb
 ·rw [e] at hb
  unfold frs at hb
  rw [List.filterMap_cons, hf] at hb
  exact hb
theorem Inv.stkFree (I : Inv X pins σ H s) : ∀ b ∈ frs X.stack, H b = none := fun b hb => by
 rcases List.mem_cons.mp (I.stkSub b hb) with e | hb
 ·rw [e]; exact I.free
 ·obtain ⟨_, o, ho, _⟩ := I.ok.funs.mem hb
  exact I.base.free b o ho (I.ok.frf b hb) fun z => I.ok.exfs b z hb
theorem Inv.step {g' : Array GenState} {t' : Nat} {d' : Drawn} {ch : List Addr} (I : Inv X pins σ H s)
  (hch : ∀ b ∈ ch, (b ∈ X.ex \/ X.s₀.heap.objs.size <= b) /\ b ≠ X.env.locals /\ (∀ x c, X.env.cells.lookup x = some c -> c ≠ b) /\ ∀ p ∈ X.pn ++ pins, p.1 ≠ b)
  (keep : ∀ b o, b ≠ X.env.locals -> b ∉ X.fs -> b ∉ ch -> s.heap.get? b = some o -> H b = none -> h'.get? b = some o)
  (slot : ∀ b o, b ≠ X.env.locals -> b ∈ X.fs -> b ∉ ch -> s.heap.get? b = some o -> H b = none -> ∃ sl, h'.get? b = some { o with slots := sl }) (free : ∀ b o, b ∉ ch -> s.heap.get? b = some o -> H b = none -> H' b = none)
  (there : ∀ b o, b ∉ ch -> s.heap.get? b = some o -> ∃ o', h'.get? b = some o')
  (tups : ∀ b xs, H b = some (.tup xs) -> H' b = some (.tup xs)) (frzs : ∀ b o u, H b = some (.frz o u) -> H' b = some (.frz o u)) (tbls : ∀ b ps, H b = some (.tbl ps) -> ∃ more, H' b = some (.tbl (ps ++ more)))
  (ns : ∀ m, s.heap.Ns X.env.locals m -> h'.Ns X.env.locals m) (hok : HOk X.prog X.w H' h') (hg : AllBare g') :
  Inv X pins σ H' { s with heap := h', gens := g', drawn := d', toks := t' } := by
 have neL : ∀ b o, X.s₀.heap.get? b = some o -> b ≠ X.env.locals := fun b o e => Nat.ne_of_lt (Nat.lt_of_lt_of_le (Heap.lt_size e) I.ok.above)
 have neC : ∀ b o, X.s₀.heap.get? b = some o -> b ∉ X.ex -> b ∉ ch := fun b o e hx hb => by
  rcases (hch b hb).1 with z | z
  ·exact hx z
  ·exact absurd (Nat.lt_of_lt_of_le (Heap.lt_size e) z) (Nat.lt_irrefl _)
 have cellK : ∀ x c, X.env.cells.lookup x = some c -> ∀ v, s.heap.IsCell c v -> h'.IsCell c v := fun x c e v ⟨o, ho, hd⟩ => by
  have nch : c ∉ ch := fun z => (hch c z).2.2.1 x c e rfl
  by_cases hc : c ∈ X.fs
  ·obtain ⟨sl, q⟩ := slot c o (I.cne x c e) hc nch ho (I.freeC x c e)
   exact ⟨_, q, hd⟩
  ·exact ⟨o, keep c o (I.cne x c e) hc nch ho (I.freeC x c e), hd⟩
 refine ⟨I.ok, I.os, hg, ⟨fun b o e n hb hx => ?_, fun b o e n hb hx => ?_, fun b o e n hx => ?_, fun b o e hx => ?_, fun b xs e => tups b xs (I.base.tups b xs e), fun b o xs e => frzs b o xs (I.base.frzs b o xs e), fun b ps e => ?_⟩, ?_, fun x c e => ?_, ?_, fun x c e => ?_, fun p hp => ?_, hok, I.len⟩
 ·exact keep b o (neL b o e) hb (neC b o e hx) (I.base.keep b o e n hb hx) (I.base.free b o e n hx)
 ·obtain ⟨sl, e1⟩ := I.base.slot b o e n hb hx
  obtain ⟨sl', e2⟩ := slot b _ (neL b o e) hb (neC b o e hx) e1 (I.base.free b o e n hx)
  exact ⟨sl', e2⟩
 ·obtain ⟨o', e1⟩ := I.base.there b o e hx
  exact free b o' (neC b o e hx) e1 (I.base.free b o e n hx)
 ·obtain ⟨o', e1⟩ := I.base.there b o e hx
  exact there b o' (neC b o e hx) e1
 ·obtain ⟨m1, e1⟩ := I.base.tbls b ps e
  obtain ⟨m2, e2⟩ := tbls b _ e1
  exact ⟨m1 ++ m2, by rw [e2, Array.append_assoc]⟩
 ·obtain ⟨m, hn, hl⟩ := I.loc
  refine ⟨m, ns m hn, fun i x v e1 e2 e3 => ?_⟩
  obtain ⟨u, r, l⟩ := hl i x v e1 e2 e3
  refine ⟨u, r, ?_⟩
  rcases l with l | ⟨k, c, e, z⟩
  ·exact .inl l
  ·exact .inr ⟨k, c, e, cellK x c e _ z⟩
 ·obtain ⟨v, z⟩ := I.cell x c e
  exact ⟨v, cellK x c e v z⟩
 ·obtain ⟨m, ⟨o, _, _, ho, _⟩, _⟩ := I.loc
  exact free _ o (fun z => (hch _ z).2.1 rfl) ho I.free
 ·obtain ⟨v, o, ho, hd⟩ := I.cell x c e
  exact free c o (fun z => (hch c z).2.2.1 x c e rfl) ho (I.freeC x c e)
 ·obtain ⟨e, n, ne, nf, d⟩ := I.pin p hp
  have nch : p.1 ∉ ch := fun z => (hch p.1 z).2.2.2 p hp rfl
  exact ⟨keep p.1 p.2 ne nf nch e n, free p.1 p.2 nch e n, ne, nf, d⟩
theorem Inv.un {t' : Nat} (I : Inv X pins σ H s) (u : Un X.fs [] H H' s.heap h') (hok : HOk X.prog X.w H' h') : Inv X pins σ H' { s with heap := h', toks := t' } := by
 obtain ⟨m, ⟨o, es, ep, ho, r⟩, _⟩ := id I.loc
 obtain ⟨sl, hL⟩ := u.any ho I.free (by simp)
 exact I.step (g' := s.gens) (d' := s.drawn) (ch := []) (fun _ z => nomatch z) (fun b o _ hb _ e n => u.keep b o e n hb (by simp)) (fun b o _ hb _ e n => u.slot b o e n hb (by simp)) (fun b o _ e n => u.free b o e n (by simp)) (fun b o _ e => u.there b o e (by simp)) u.tups u.frzs u.tbls (fun m' hm => by
  obtain ⟨o', es', ep', ho', r'⟩ := hm
  rw [ho] at ho'; cases ho'
  exact ⟨_, es', ep', hL, r'⟩) hok I.bare
theorem Inv.call {g' : Array GenState} {t' : Nat} {d' : Drawn} {ch : List Addr} (I : Inv X pins σ H s) (u : Un (frs X.stack) ch H H' s.heap h') (hok : HOk X.prog X.w H' h') (hg : AllBare g')
  (hch : ∀ b ∈ ch, (b ∈ X.ex \/ X.s₀.heap.objs.size <= b) /\ b ≠ X.env.locals /\ (∀ x c, X.env.cells.lookup x = some c -> c ≠ b) /\ ∀ p ∈ X.pn ++ pins, p.1 ≠ b) :
  Inv X pins σ H' { s with heap := h', gens := g', drawn := d', toks := t' } := by
 obtain ⟨m, ⟨o, es, ep, ho, r⟩, _⟩ := id I.loc
 obtain ⟨sl, hL⟩ := u.any ho I.free fun z => (hch _ z).2.1 rfl
 exact I.step (ch := ch) hch (fun b o hL hb hc e n => u.keep b o e n (fun z => (List.mem_cons.mp (I.stkSub b z)).elim hL hb) hc) (fun b o _ _ hc e n => u.any e n hc) (fun b o hc e n => u.free b o e n hc) (fun b o hc e => u.there b o e hc) u.tups u.frzs u.tbls (fun m' hm => by
  obtain ⟨o', es', ep', ho', r'⟩ := hm
  rw [ho] at ho'; cases ho'
  exact ⟨_, es', ep', hL, r'⟩) hok hg
theorem Inv.turned {t' : Nat} {it : Addr} (I : Inv X pins σ H s) (k : ∀ b o, b ≠ it -> s.heap.get? b = some o -> h'.get? b = some o) (hn : H it = none) (hL : it ≠ X.env.locals)
  (h1 : it ∈ X.ex \/ X.s₀.heap.objs.size <= it) (h2 : ∀ x c, X.env.cells.lookup x = some c -> c ≠ it) (h3 : ∀ p ∈ X.pn ++ pins, p.1 ≠ it) : Inv X pins σ H { s with heap := h', toks := t' } := by
 have nit : ∀ b u, H b = some u -> b ≠ it := fun b u e z => by rw [z, hn] at e; cases e
 refine I.step (g' := s.gens) (d' := s.drawn) (ch := [it]) (fun b hb => ?_) (fun b o _ _ hc e _ => k b o (fun z => hc (by simp [z])) e) (fun b o _ _ hc e _ => ⟨o.slots, k b o (fun z => hc (by simp [z])) e⟩) (fun _ _ _ _ n => n)
  (fun b o hc e => ⟨o, k b o (fun z => hc (by simp [z])) e⟩) (fun _ _ e => e) (fun _ _ _ e => e) (fun b ps e => ⟨#[], by rw [e]; simp⟩) (fun m hm => ?_) (fun b u e => ?_) I.bare
 ·have e : b = it := by simpa using hb
  subst e
  exact ⟨h1, hL, h2, h3⟩
 ·obtain ⟨o, es, ep, ho, r⟩ := hm
  exact ⟨o, es, ep, k _ o (Ne.symm hL) ho, r⟩
 ·refine (I.hok b u e).stay (fun c v hc q => k c v ?_ q) (fun _ q => q) fun _ _ q => q
  rcases hc with z | z
  ·rw [z]; exact nit b u e
  ·exact nit c _ z
theorem Inv.tok (I : Inv X pins σ H s) (t : Nat) : Inv X pins σ H { s with toks := t } := I.un (h' := s.heap) (t' := t) Un.refl I.hok
theorem Inv.kept {t' : Nat} (I : Inv X pins σ H s) (k : ∀ b u, s.heap.get? b = some u -> h'.get? b = some u) : Inv X pins σ H { s with heap := h', toks := t' } := I.un (Un.kept k) (I.hok.kept k)
theorem Inv.laid {a : Addr} {o : HO} {t' : Nat} (I : Inv X pins σ H s) (k : ∀ b u, s.heap.get? b = some u -> h'.get? b = some u) (hp : s.heap.objs.size <= a) (new : aU X.prog X.w (upd H a o) h' a o) :
  Inv X pins σ (upd H a o) { s with heap := h', toks := t' } := I.un (Un.laid k hp (I.hok.fresh hp)) (I.hok.laid k hp new)
theorem Inv.write {x e : Addr} {o : HO} {t' : Nat} (I : Inv X pins σ H s) (mu : Mut (H x)) (he : e = x \/ H e = some (.own x)) (k : ∀ b u, b ≠ e -> s.heap.get? b = some u -> h'.get? b = some u) (heo : ∃ u, h'.get? e = some u)
  (new : aU X.prog X.w (upd H x o) h' x o) : Inv X pins σ (upd H x o) { s with heap := h', toks := t' } := I.un (Un.write mu he k heo) (I.hok.write mu he k heo new)
theorem Inv.weak {σ' : List (Option V)} (I : Inv X pins σ H s) (hl : σ'.length = σ.length) (w : ∀ (i : Nat) v, σ'[i]? = some (some v) -> σ[i]? = some (some v)) : Inv X pins σ' H s :=
 ⟨I.ok, I.os, I.bare, I.base, let ⟨m, hn, hl'⟩ := I.loc; ⟨m, hn, fun i x v e1 e2 e3 => hl' i x v e1 (w i v e2) e3⟩, I.cell, I.free, I.freeC, I.pin, I.hok, hl.trans I.len⟩
theorem Inv.pins_of {pins' : List (Addr × Obj)} (I : Inv X pins σ H s) (h : ∀ p ∈ pins', s.heap.get? p.1 = some p.2 /\ H p.1 = none /\ p.1 ≠ X.env.locals /\ p.1 ∉ X.fs /\ ∀ v, p.2.data ≠ .cell v) : Inv X pins' σ H s :=
 ⟨I.ok, I.os, I.bare, I.base, I.loc, I.cell, I.free, I.freeC, fun p hp => (List.mem_append.mp hp).elim (fun z => I.pin p (List.mem_append_left _ z)) (h p), I.hok, I.len⟩
theorem kI {N : List Str} (hN : N.Nodup) {i j : Nat} {x : Str} (a : N[i]? = some x) (b : N[j]? = some x) : i = j := by
 obtain ⟨h1, e1⟩ := List.getElem?_eq_some_iff.mp a
 obtain ⟨h2, e2⟩ := List.getElem?_eq_some_iff.mp b
 exact (List.getElem_inj hN).mp (e1.trans e2.symm)
theorem jb {M : Model} {A : Around} {E : Value -> Shared -> Prop} {i : Nat} {x : Str} {v : V} {u : Value} {Q : Unit -> Shared -> Prop} (I : Inv X pins σ H s) (hN : X.N.Nodup) (hi : X.N[i]? = some x) (hx : Loc X.env.scope x) (r : aR v u)
  (h : ∀ s', Inv X pins (σ.set i (some v)) H s' -> (∃ a, Heap.SameBut a s.heap s'.heap /\ (a = X.env.locals \/ X.env.cells.lookup x = some a)) -> Q () s') (hf : X.fn x = true \/ X.env.scope.names.lookup x = some .local := by first | exact .inl rfl | exact .inr rfl | assumption) : wpAny M A (storeName X.env x u) Q E s := by
 obtain ⟨m, hn, hl⟩ := id I.loc
 have hcls : (X.env.scope.kind == .class || (X.env.scope.kind == .module && X.env.locals != X.env.globals)) = false := by rw [I.ok.kind]; rfl
 have hiσ : i < σ.length := by rw [I.len]; exact (List.getElem?_eq_some_iff.mp hi).1
 have cne := I.cne
 have tracked : ∀ {a : Addr} {h' : Heap}, (∃ o, s.heap.get? a = some o /\ H a = none) -> Heap.SameBut a s.heap h' -> HOk X.prog X.w H h' := fun {a h'} ha hs b ob e => by
  obtain ⟨_, _, hfree⟩ := ha
  refine (I.hok b ob e).stay (fun c w' hc q => (hs.2 c ?_).trans q) (fun _ q => q) fun _ _ q => q
  rintro rfl
  rcases hc with rfl | hc
  ·rw [hfree] at e; cases e
  ·rw [hfree] at hc; cases hc
 rcases hx with hk | hk
 ·refine wpAny_storeName_local hk hn (fun h' hn' hs => ?_) hcls
  obtain ⟨oL, _, _, hoL, _⟩ := id hn
  refine h _ ⟨I.ok, I.os, I.bare, ⟨fun b o e n hb hx => ?_, fun b o e n hb hx => ?_, I.base.free, fun b o e hx => ?_, I.base.tups, I.base.frzs, I.base.tbls⟩, ⟨_, hn', fun j y v' e1 e2 e3 => ?_⟩, fun y c e => ?_, I.free, I.freeC, fun p hp => ?_, tracked ⟨oL, hoL, I.free⟩ hs, by simpa using I.len⟩ ⟨_, hs, .inl rfl⟩
  ·exact (hs.2 b (Nat.ne_of_lt (Nat.lt_of_lt_of_le (Heap.lt_size e) I.ok.above))).trans (I.base.keep b o e n hb hx)
  ·obtain ⟨sl, e1⟩ := I.base.slot b o e n hb hx
   exact ⟨sl, (hs.2 b (Nat.ne_of_lt (Nat.lt_of_lt_of_le (Heap.lt_size e) I.ok.above))).trans e1⟩
  ·obtain ⟨o', e1⟩ := I.base.there b o e hx
   exact ⟨o', (hs.2 b (Nat.ne_of_lt (Nat.lt_of_lt_of_le (Heap.lt_size e) I.ok.above))).trans e1⟩
  ·by_cases hj : j = i
   ·subst hj
    rw [hi] at e1; cases e1
    rw [List.getElem?_set_self hiσ] at e2
    cases e2
    exact ⟨u, r, .inl ⟨hk, by simp⟩⟩
   ·rw [List.getElem?_set_ne (Ne.symm hj)] at e2
    obtain ⟨u', r', q⟩ := hl j y v' e1 e2 e3
    refine ⟨u', r', ?_⟩
    rcases q with ⟨k, e⟩ | ⟨k, c, e, z⟩
    ·refine .inl ⟨k, ?_⟩
     have : y ≠ x := fun e => hj (kI hN e1 (e ▸ hi))
     simp [this, e]
    ·exact .inr ⟨k, c, e, z.sameBut hs (cne y c e)⟩
  ·obtain ⟨w', z⟩ := I.cell y c e
   exact ⟨w', z.sameBut hs (cne y c e)⟩
  ·obtain ⟨e, n, ne, nf, d⟩ := I.pin p hp
   exact ⟨(hs.2 p.1 ne).trans e, n, ne, nf, d⟩
 ·have hfn : X.fn x = true := by
   rcases hf with z | z
   ·exact z
   ·rw [z] at hk; cases hk
  obtain ⟨c, hc⟩ := I.ok.has x (.inl hk)
  obtain ⟨w', z⟩ := I.cell x c hc
  refine wpAny_storeName_cell I.ok.kind hk hc z (fun h' hc' hs => ?_)
  obtain ⟨oc, hoc, hocd⟩ := id z
  refine h { s with heap := h' } ⟨I.ok, I.os, I.bare, ⟨fun b o e n hb hx => ?_, fun b o e n hb hx => ?_, I.base.free, fun b o e hx => ?_, I.base.tups, I.base.frzs, I.base.tbls⟩, ⟨m, hn.sameBut hs (Ne.symm (cne x c hc)), fun j y v' e1 e2 e3 => ?_⟩, fun y c' e => ?_, I.free, I.freeC, fun p hp => ?_, tracked ⟨oc, hoc, I.freeC x c hc⟩ hs, by simpa using I.len⟩ ⟨c, hs, .inr hc⟩
  ·exact (hs.2 b (Nat.ne_of_lt (Nat.lt_of_lt_of_le (Heap.lt_size e) (I.ok.cab x c hfn hc)))).trans (I.base.keep b o e n hb hx)
  ·obtain ⟨sl, e1⟩ := I.base.slot b o e n hb hx
   exact ⟨sl, (hs.2 b (Nat.ne_of_lt (Nat.lt_of_lt_of_le (Heap.lt_size e) (I.ok.cab x c hfn hc)))).trans e1⟩
  ·obtain ⟨o', e1⟩ := I.base.there b o e hx
   exact ⟨o', (hs.2 b (Nat.ne_of_lt (Nat.lt_of_lt_of_le (Heap.lt_size e) (I.ok.cab x c hfn hc)))).trans e1⟩
  ·by_cases hj : j = i
   ·subst hj
    rw [hi] at e1; cases e1
    rw [List.getElem?_set_self hiσ] at e2
    cases e2
    exact ⟨u, r, .inr ⟨.inl hk, c, hc, hc'⟩⟩
   ·rw [List.getElem?_set_ne (Ne.symm hj)] at e2
    obtain ⟨u', r', q⟩ := hl j y v' e1 e2 e3
    refine ⟨u', r', ?_⟩
    rcases q with q | ⟨k, c', e, z'⟩
    ·exact .inl q
    ·refine .inr ⟨k, c', e, z'.sameBut hs ?_⟩
     rintro rfl
     exact hj (kI hN e1 (I.ok.inj _ _ _ e hc ▸ hi))
  ·by_cases hcc : c' = c
   ·subst hcc; exact ⟨_, hc'⟩
   ·obtain ⟨w2, z2⟩ := I.cell y c' e
    exact ⟨w2, z2.sameBut hs hcc⟩
  ·obtain ⟨e, n, ne, nf, d⟩ := I.pin p hp
   refine ⟨(hs.2 p.1 ?_).trans e, n, ne, nf, d⟩
   intro q
   rw [q, hoc] at e
   have q' : oc = p.2 := Option.some.inj e
   exact d w' (by rw [<- q']; exact hocd)
theorem kB {M : Model} {A : Around} {E : Value -> Shared -> Prop} {i : Nat} {x : Str} {v : V} {u : Value} {Q : Unit -> Shared -> Prop} (I : Inv X pins σ H s) (hN : X.N.Nodup) (hi : X.N[i]? = some x) (hx : Loc X.env.scope x) (r : aR v u)
  (h : ∀ s', Inv X pins (σ.set i (some v)) H s' -> Q () s') (hf : X.fn x = true \/ X.env.scope.names.lookup x = some .local := by first | exact .inl rfl | exact .inr rfl | assumption) : wpAny M A (storeName X.env x u) Q E s :=
 jb I hN hi hx r (fun s' I' _ => h s' I') hf
theorem Inv.call' {s' : Shared} {ch : List Addr} (I : Inv X pins σ H s) (ho : s'.os = s.os) (u : Un (frs X.stack) ch H H' s.heap s'.heap) (hok : HOk X.prog X.w H' s'.heap) (hg : AllBare s'.gens)
  (hch : ∀ b ∈ ch, (b ∈ X.ex \/ X.s₀.heap.objs.size <= b) /\ b ≠ X.env.locals /\ (∀ x c, X.env.cells.lookup x = some c -> c ≠ b) /\ ∀ p ∈ X.pn ++ pins, p.1 ≠ b) : Inv X pins σ H' s' := by
 obtain ⟨h', g', d', t', o'⟩ := s'
 have e : o' = s.os := ho
 subst e
 exact I.call (g' := g') (t' := t') (d' := d') u hok hg hch
end
abbrev XK := Value -> Option Addr -> Hp -> Prop
abbrev St := List (Option V)
abbrev VK := V -> Hp -> Prop
abbrev TE := St -> Hp -> VK -> Prop
abbrev TT := St -> Hp -> (Bool -> Hp -> Prop) -> Prop
abbrev TA := St -> Hp -> (List V -> Hp -> Prop) -> Prop
structure fF where
 nx : St -> Hp -> Prop
 rt : VK
 bk : St -> Hp -> Prop := fun _ _ => False
 ct : St -> Hp -> Prop := fun _ _ => False
abbrev TS := fF -> St -> Hp -> Prop
def EP (X : Cx) (pins : List (Addr × Obj)) (σ : St) (Q : VK) (u : Value) (s' : Shared) : Prop := ∃ v H', Inv X pins σ H' s' /\ aR v u /\ Q v H'
def TP (X : Cx) (pins : List (Addr × Obj)) (σ : St) (Q : Bool -> Hp -> Prop) (b : Bool) (s' : Shared) : Prop := ∃ H', Inv X pins σ H' s' /\ Q b H'
def AP (X : Cx) (pins : List (Addr × Obj)) (σ : St) (Q : List V -> Hp -> Prop) (us : List Value) (s' : Shared) : Prop := ∃ vs H', Inv X pins σ H' s' /\ aF vs us /\ Q vs H'
def SP (X : Cx) (pins : List (Addr × Obj)) (D : fF) (f : Flow) (s' : Shared) : Prop :=
 match f with
 | .next => ∃ σ' H', Inv X pins σ' H' s' /\ D.nx σ' H'
 | .brk => ∃ σ' H', Inv X pins σ' H' s' /\ D.bk σ' H'
 | .cont => ∃ σ' H', Inv X pins σ' H' s' /\ D.ct σ' H'
 | .ret u => ∃ v σ' H', Inv X pins σ' H' s' /\ aR v u /\ D.rt v H'
def PE (X : Cx) (e : Expr) (t : TE) : Prop :=
 ∀ (pins : List (Addr × Obj)) (s : Shared) (σ : St) (H : Hp) (Q : VK), Inv X pins σ H s -> t σ H Q -> wpAny (model X.prog X.w) X.A (eval e X.env) (EP X pins σ Q) X.xe s
def PT (X : Cx) (e : Expr) (t : TT) : Prop :=
 ∀ (pins : List (Addr × Obj)) (s : Shared) (σ : St) (H : Hp) (Q : Bool -> Hp -> Prop), Inv X pins σ H s -> t σ H Q -> wpAny (model X.prog X.w) X.A (isTrue e X.env (eval e X.env)) (TP X pins σ Q) X.xe s
def PW (X : Cx) (e : Expr) (t : TT) : Prop :=
 ∀ (whole : Sem Value) (pins : List (Addr × Obj)) (s : Shared) (σ : St) (H : Hp) (Q : Bool -> Hp -> Prop), Inv X pins σ H s -> t σ H Q -> wpAny (model X.prog X.w) X.A (isTrue e X.env whole) (TP X pins σ Q) X.xe s
theorem PW.pt {X : Cx} {e : Expr} {t : TT} (h : PW X e t) : PT X e t := h _
def PA (X : Cx) (es : List Expr) (t : TA) : Prop :=
 ∀ (pos : Pos) (pins : List (Addr × Obj)) (s : Shared) (σ : St) (H : Hp) (Q : List V -> Hp -> Prop), Inv X pins σ H s -> t σ H Q -> wpAny (model X.prog X.w) X.A (spliced (backTo pos (starEach es X.env))) (AP X pins σ Q) X.xe s
def PS (X : Cx) (st : Stmt) (t : TS) : Prop :=
 ∀ (pins : List (Addr × Obj)) (s : Shared) (σ : St) (H : Hp) (D : fF), Inv X pins σ H s -> t D σ H -> wpAny (model X.prog X.w) X.A (exec st X.env) (SP X pins D) X.xe s
def PSs (X : Cx) (st : List Stmt) (t : TS) : Prop :=
 ∀ (pins : List (Addr × Obj)) (s : Shared) (σ : St) (H : Hp) (D : fF), Inv X pins σ H s -> t D σ H -> wpAny (model X.prog X.w) X.A (execs st X.env) (SP X pins D) X.xe s
theorem thn {α : Type} {t : Sem α} {Q Q' : α -> Shared -> Prop} {M : Model} {A : Around} {E : Value -> Shared -> Prop} {s : Shared} (h : wpAny M A t Q E s) (hQ : ∀ a s, Q a s -> Q' a s) : wpAny M A t Q' E s := wpAny_mono h hQ fun _ _ x => x
section
variable {X : Cx}
def rS (i : Nat) : TE := fun σ H Q => ∃ v, σ[i]? = some (some v) /\ Q v H
def tC (v : V) : TE := fun _ H Q => Q v H
theorem pF {i : Nat} {x : Str} {pos : Pos} (hN : X.N[i]? = some x) (hv : Vis X.env.scope x) (hd : (x == ("__debug__" : Str)) = false := by decide) (hcd : (x == ("__classdict__" : Str)) = false := by decide) : PE X (.Name x pos) (rS i) := by
 intro pins s σ H Q I h
 obtain ⟨v, e, h⟩ := h
 obtain ⟨m, hn, hl⟩ := I.loc
 obtain ⟨u, r, l⟩ := hl i x v hN e hv
 have fin : EP X pins σ Q u s := ⟨v, H, I, r, h⟩
 rcases l with ⟨hk, hm⟩ | ⟨hk, c, hc, hcell⟩
 ·exact wpAny_Name (wpAny_loadName_local I.ok.kind hk hn hm fin) hd
 ·rcases hk with hk | hk
  ·exact wpAny_Name (wpAny_loadName_cell I.ok.kind hk hc hcell fin) hd
  ·exact wpAny_Name (wpAny_loadName_free I.ok.kind hk hc hcell fin hcd) hd
theorem ae {i j pos} : PE X (.Constant (.int i) j pos) (tC (.int i)) := fun _ _ _ H _ I h => wpAny_Constant_int ⟨.int i, H, I.tok _, ⟨_, rfl⟩, h⟩
theorem iQ {b j pos} : PE X (.Constant (.bool b) j pos) (tC (.bl b)) := fun _ _ _ H _ I h => Constant_bool ⟨.bl b, H, I, rfl, h⟩
theorem aM {x j pos} : PE X (.Constant (.str x) j pos) (tC (.str x)) := fun _ _ _ H _ I h => Calls.Constant_str ⟨.str x, H, I.tok _, ⟨_, rfl⟩, h⟩
def Gl (X : Cx) (x : Str) : Prop := X.env.kindOf x = some .globalImplicit
theorem nZ {E : Value -> Shared -> Prop} {pins : List (Addr × Obj)} {s : Shared} {σ : St} {H : Hp} {x : Str} {u : Value} {pos : Pos} {Q : Value -> Shared -> Prop} (I : Inv X pins σ H s) (hg : Gl X x) (hm : X.mg x = some u) (h : Q u s)
  (hd : (x == ("__debug__" : Str)) = false := by decide) : wpAny (model X.prog X.w) X.A (eval (.Name x pos) X.env) Q E s :=
 Calls.Name_function_global I.ok.kind hg (Calls.loadGlobal_global (by rw [I.ok.glob]; exact I.mod.glob.keeps I.bk) hm h) hd
theorem eB {E : Value -> Shared -> Prop} {pins : List (Addr × Obj)} {s : Shared} {σ : St} {H : Hp} {x : Str} {u : Value} {pos : Pos} {Q : Value -> Shared -> Prop} (I : Inv X pins σ H s) (hg : Gl X x) (hm : X.mg x = none) (hv : bootBuiltins x = some u) (h : Q u s)
  (hn : x ≠ "__name__" := by decide) (hd : (x == ("__debug__" : Str)) = false := by decide) : wpAny (model X.prog X.w) X.A (eval (.Name x pos) X.env) Q E s := by
 obtain ⟨mb, h1, h2⟩ := I.mod.blt
 exact Calls.Name_function_global I.ok.kind hg (Calls.loadGlobal_builtin (by rw [I.ok.glob]; exact I.mod.glob.keeps I.bk) hm (by rw [I.ok.blt]; exact h1.keeps I.bk) ((h2 x hn).trans hv) h) hd
theorem nA {x : Str} {v : V} {u : Value} {pos : Pos} (hg : Gl X x) (hm : X.mg x = some u) (r : aR v u) (hd : (x == ("__debug__" : Str)) = false := by decide) : PE X (.Name x pos) (tC v) :=
 fun _ _ _ H _ I h => nZ I hg hm ⟨v, H, I, r, h⟩ hd
theorem dL {x : Str} {v : V} {u : Value} {pos : Pos} (hg : Gl X x) (hm : X.mg x = none) (hv : bootBuiltins x = some u) (r : aR v u) (hn : x ≠ "__name__" := by decide) (hd : (x == ("__debug__" : Str)) = false := by decide) : PE X (.Name x pos) (tC v) :=
 fun _ _ _ H _ I h => eB I hg hm hv ⟨v, H, I, r, h⟩ hn hd
variable {a b : Expr} {ta tb : TE} {pos : Pos}
def tB (t : TE) : TT := fun σ H Q => t σ H fun x H1 => ∃ c, x = .bl c /\ Q c H1
theorem dP {e : Expr} {t : TE} (h : PE X e t) (he : ∀ whole, isTrue e X.env whole = (do let v <- whole; standAt e.pos; holding [v] (truthy v)) := by intro _; rfl) : PT X e (tB t) := by
 intro pins s σ H Q I hw
 refine isTrue_plain (thn (h pins s σ H _ I hw) fun v s1 ⟨x, H1, I1, r1, q1⟩ => ?_) (he _)
 obtain ⟨d, rfl, q⟩ := q1
 cases r1
 exact wpAny_truthy_bool ⟨H1, I1, q⟩
variable {tA tB' : TT} {rest : List Expr}
def wy (t u : TT) : TT := fun σ H Q => t σ H fun c H1 => if c = true then u σ H1 Q else Q false H1
def tOr (t u : TT) : TT := fun σ H Q => t σ H fun c H1 => if c = true then Q true H1 else u σ H1 Q
def wA (t : TT) : TT := fun σ H Q => t σ H fun c H1 => Q (!c) H1
theorem nS (ha : PT X a tA) : PW X (.BoolOp .And [a] pos) tA := by
 intro wh pins s σ H Q I h
 refine isTrue_and (thn (ha pins s σ H Q I h) fun c s1 e => ?_)
 cases c with
 | true => exact isTrue_and_nil e
 | false => exact e
theorem gL (ha : PT X a tA) : PW X (.BoolOp .Or [a] pos) tA := by
 intro wh pins s σ H Q I h
 refine isTrue_or (thn (ha pins s σ H Q I h) fun c s1 e => ?_)
 cases c with
 | false => exact isTrue_or_nil e
 | true => exact e
theorem qU (ha : PT X a tA) (hb : PW X (.BoolOp .And (b :: rest) pos) tB') : PW X (.BoolOp .And (a :: b :: rest) pos) (wy tA tB') := by
 intro wh pins s σ H Q I h
 refine isTrue_and (thn (ha pins s σ H _ I h) fun c s1 ⟨H1, I1, q1⟩ => ?_)
 cases c with
 | true => exact hb wh pins s1 σ H1 Q I1 q1
 | false => exact ⟨H1, I1, q1⟩
theorem iO (ha : PT X a tA) (hb : PW X (.BoolOp .Or (b :: rest) pos) tB') : PW X (.BoolOp .Or (a :: b :: rest) pos) (tOr tA tB') := by
 intro wh pins s σ H Q I h
 refine isTrue_or (thn (ha pins s σ H _ I h) fun c s1 ⟨H1, I1, q1⟩ => ?_)
 cases c with
 | true => exact ⟨H1, I1, q1⟩
 | false => exact hb wh pins s1 σ H1 Q I1 q1
theorem fX (ha : PT X a tA) : PT X (.UnaryOp .Not a pos) (wA tA) := by
 intro pins s σ H Q I h
 exact isTrue_not (ha pins s σ H (fun c H1 => Q (!c) H1) I h)
def vG (ta tb : TE) : TE := fun σ H Q => ta σ H fun x H1 => ∃ c, x = .bl c /\ if c = true then tb σ H1 Q else Q (.bl false) H1
def vN (ta : TE) : TE := fun σ H Q => ta σ H fun x H1 => ∃ c, x = .bl c /\ Q (.bl (!c)) H1
theorem pI {op} {t : TE} (h : PE X a t) : PE X (.BoolOp op [a] pos) t := fun pins s σ H Q I hw => BoolOp_one (h pins s σ H Q I hw)
theorem ku (ha : PE X a ta) (hb : PE X (.BoolOp .And (b :: rest) pos) tb) : PE X (.BoolOp .And (a :: b :: rest) pos) (vG ta tb) := by
 intro pins s σ H Q I h
 refine BoolOp_and (thn (ha pins s σ H _ I h) fun v s1 ⟨x, H1, I1, r1, q1⟩ => ?_)
 obtain ⟨c, rfl, q1⟩ := q1
 cases r1
 refine wpAny_truthy_bool ?_
 cases c with
 | true => exact hb pins s1 σ H1 Q I1 q1
 | false => exact ⟨.bl false, H1, I1, rfl, q1⟩
theorem uO (ha : PE X a ta) : PE X (.UnaryOp .Not a pos) (vN ta) := by
 intro pins s σ H Q I h
 refine UnaryOp_ (thn (ha pins s σ H _ I h) fun v s1 ⟨x, H1, I1, r1, q1⟩ => ?_)
 obtain ⟨c, rfl, q1⟩ := q1
 cases r1
 exact not_of (wpAny_truthy_bool ⟨.bl (!c), H1, I1, rfl, q1⟩)
def tIf (t : TT) (ta tb : TE) : TE := fun σ H Q => t σ H fun c H1 => if c = true then ta σ H1 Q else tb σ H1 Q
theorem rB {c : Expr} (hc : PT X c tA) (ha : PE X a ta) (hb : PE X b tb) : PE X (.IfExp c a b pos) (tIf tA ta tb) := by
 intro pins s σ H Q I h
 refine wpAny_IfExp (thn (hc pins s σ H _ I h) fun d s1 ⟨H1, I1, q1⟩ => ?_)
 cases d with
 | true => exact ha pins s1 σ H1 Q I1 q1
 | false => exact hb pins s1 σ H1 Q I1 q1
end
def SqL (K : PySem.W.Frag) (H : Hp) (a : Addr) (xs : List V) : Prop :=
 Rd H a (.lst xs) \/
  ∃ (o : Obj) (its : Array Value) (n : Nat), K.lookup a = some o /\ o.cls = .type "list" /\ o.dict = none /\ o.data = .seq its n /\ its.size <= sizeLine /\ aF xs its.toList
def SqT (K : PySem.W.Frag) (H : Hp) (a : Addr) (xs : List V) : Prop :=
 Rd H a (.tup xs) \/
  ∃ (o : Obj) (its : Array Value) (n : Nat), K.lookup a = some o /\ o.cls = .type "tuple" /\ o.data = .seq its n /\ its.size <= sizeLine /\ aF xs its.toList
def wa : Value -> Option V
 | .none => some .non
 | .bool b => some (.bl b)
 | .int i _ => some (.int i)
 | .str x _ => some (.str x)
 | .bytes b _ => some (.byt b)
 | .float b _ => some (.flt b)
 | .ref a => some (.ref a)
 | .type n => some (.ty n)
 | _ => none
theorem aR.abs {x : V} {u : Value} (r : aR x u) : wa u = some x := by
 cases x with
 | non => cases r; rfl
 | bl _ => cases r; rfl
 | int _ => obtain ⟨t, rfl⟩ := r; rfl
 | str _ => obtain ⟨t, rfl⟩ := r; rfl
 | byt _ => obtain ⟨t, rfl⟩ := r; rfl
 | flt _ => obtain ⟨t, rfl⟩ := r; rfl
 | ref _ => cases r; rfl
 | ty _ => cases r; rfl
theorem aR.inj {x y : V} {u : Value} (r : aR x u) (q : aR y u) : x = y := Option.some.inj (r.abs.symm.trans q.abs)
theorem aF.inj : ∀ {xs ys : List V} {us : List Value}, aF xs us -> aF ys us -> xs = ys
 | _, _, _, .nil, .nil => rfl
 | _, _, _, .cons r t, .cons r' t' => by rw [r.inj r', aF.inj t t']
section
variable {X : Cx} {pins : List (Addr × Obj)} {σ : St} {H : Hp} {s : Shared} {a : Addr} {xs ys : List V}
theorem SqL.of {K : PySem.W.Frag} (h : H a = some (.lst xs)) : SqL K H a xs := .inl (.inl h)
theorem SqT.of {K : PySem.W.Frag} (h : H a = some (.tup xs)) : SqT K H a xs := .inl (.inl h)
theorem Inv.list (I : Inv X pins σ H s) (h : SqL X.K H a xs) : ∃ its : List Value, aF xs its /\ PlainL s.heap a its.toArray /\ xs.length <= sizeLine := by
 rcases h with h | ⟨o, its, n, hk, hc, hd, hs, hz, r⟩
 ·obtain ⟨z, its, n, r, e⟩ := h.ok I.hok
  exact ⟨its, r, ⟨_, n, e, rfl, rfl, rfl⟩, z⟩
 ·refine ⟨its.toList, r, ⟨o, n, I.kIn a o hk, hc, hd, by simpa using hs⟩, ?_⟩
  have e := r.length
  simp only [Array.length_toList] at e
  omega
theorem Inv.tuple (I : Inv X pins σ H s) (h : SqT X.K H a xs) : ∃ its : List Value, aF xs its /\ IsTup s.heap a its.toArray /\ xs.length <= sizeLine := by
 rcases h with h | ⟨o, its, n, hk, hc, hs, hz, r⟩
 ·obtain ⟨z, its, r, p⟩ := h.ok I.hok
  exact ⟨its, r, p.1, z⟩
 ·refine ⟨its.toList, r, ⟨o, I.kIn a o hk, hc, n, by simpa using hs⟩, ?_⟩
  have e := r.length
  simp only [Array.length_toList] at e
  omega
theorem Inv.list_inj (I : Inv X pins σ H s) (h : SqL X.K H a xs) (h' : SqL X.K H a ys) : xs = ys := by
 obtain ⟨its, r, ⟨o, n, e, _, _, d⟩, _⟩ := I.list h
 obtain ⟨its', r', ⟨o', n', e', _, _, d'⟩, _⟩ := I.list h'
 rw [e] at e'; cases e'
 rw [d] at d'
 injection d' with d1 _
 have : its = its' := by simpa using congrArg Array.toList d1
 subst this
 exact r.inj r'
theorem Inv.tuple_inj (I : Inv X pins σ H s) (h : SqT X.K H a xs) (h' : SqT X.K H a ys) : xs = ys := by
 obtain ⟨its, r, ⟨o, e, _, n, d⟩, _⟩ := I.tuple h
 obtain ⟨its', r', ⟨o', e', _, n', d'⟩, _⟩ := I.tuple h'
 rw [e] at e'; cases e'
 rw [d] at d'
 injection d' with d1 _
 have : its = its' := by simpa using congrArg Array.toList d1
 subst this
 exact r.inj r'
end
abbrev Cx.wish (X : Cx) (E : Value -> Shared -> Prop) : Cx := { X with xe := E }
abbrev Cx.nox (X : Cx) : Cx := X.wish fun _ _ => False
theorem Cx.Ok.wish {X : Cx} (ok : X.Ok) (E : Value -> Shared -> Prop) : (X.wish E).Ok :=
 ⟨ok.mod, ok.kind, ok.glob, ok.blt, ok.above, ok.inj, ok.has, ok.cab, ok.hd, ok.frames, ok.stk, ok.exf, ok.bs, ok.bsz, ok.noex, ok.exfs, ok.funs, ok.frf⟩
theorem Cx.Ok.unwish {X : Cx} {E : Value -> Shared -> Prop} (ok : (X.wish E).Ok) : X.Ok :=
 ⟨ok.mod, ok.kind, ok.glob, ok.blt, ok.above, ok.inj, ok.has, ok.cab, ok.hd, ok.frames, ok.stk, ok.exf, ok.bs, ok.bsz, ok.noex, ok.exfs, ok.funs, ok.frf⟩
section
variable {X : Cx} {pins : List (Addr × Obj)} {σ : St} {H : Hp} {s : Shared} {E : Value -> Shared -> Prop}
theorem Inv.wish (I : Inv X pins σ H s) (E : Value -> Shared -> Prop) : Inv (X.wish E) pins σ H s := ⟨I.ok.wish E, I.os, I.bare, I.base, I.loc, I.cell, I.free, I.freeC, I.pin, I.hok, I.len⟩
theorem Inv.unwish (I : Inv (X.wish E) pins σ H s) : Inv X pins σ H s := ⟨I.ok.unwish, I.os, I.bare, I.base, I.loc, I.cell, I.free, I.freeC, I.pin, I.hok, I.len⟩
theorem SP.unwish {D : fF} {f : Flow} {s' : Shared} (h : SP (X.wish E) pins D f s') : SP X pins D f s' := by
 cases f with
 | next => obtain ⟨σ', H', I, q⟩ := h; exact ⟨σ', H', I.unwish, q⟩
 | brk => obtain ⟨σ', H', I, q⟩ := h; exact ⟨σ', H', I.unwish, q⟩
 | cont => obtain ⟨σ', H', I, q⟩ := h; exact ⟨σ', H', I.unwish, q⟩
 | ret u => obtain ⟨v, σ', H', I, r, q⟩ := h; exact ⟨v, σ', H', I.unwish, r, q⟩
theorem PSs.nox {st : List Stmt} {t : TS} (h : PSs X.nox st t) : PSs X st t := fun pins s σ H D I hw =>
 wpAny_mono (h pins s σ H D (I.wish _) hw) (fun _ _ q => q.unwish) fun _ _ z => False.elim z
end
section
variable {X : Cx} {st : Stmt} {rest : List Stmt} {t u : TS} {e : Expr} {te : TE} {pos : Pos}
def tq : TS := fun D σ H => D.nx σ H
def vx (t u : TS) : TS := fun D σ H => t { D with nx := u D } σ H
theorem aS : PSs X [] tq := fun _ _ σ H _ I h => wpAny_execs_nil ⟨σ, H, I, h⟩
theorem ag (h1 : PS X st t) (h2 : PSs X rest u) : PSs X (st :: rest) (vx t u) := by
 intro pins s σ H D I h
 refine wpAny_execs_cons (thn (h1 pins s σ H { D with nx := u D } I h) fun f s1 q => ?_)
 cases f with
 | next =>
  obtain ⟨σ', H', I', q⟩ := q
  exact h2 pins s1 σ' H' D I' q
 | ret v => exact q
 | brk => exact q
 | cont => exact q
theorem ao (h1 : PS X st t) : PSs X [st] t := by
 intro pins s σ H D I h
 refine wpAny_execs_cons (thn (h1 pins s σ H D I h) fun f s1 q => ?_)
 cases f with
 | next => exact wpAny_execs_nil q
 | ret v => exact q
 | brk => exact q
 | cont => exact q
theorem Inv.quiet {pins : List (Addr × Obj)} {σ : St} {H : Hp} {s : Shared} (I : Inv X pins σ H s) : interactive X.env = false := by simp [interactive, I.ok.kind]
def vV (te : TE) : TS := fun D σ H => te σ H fun _ H1 => D.nx σ H1
theorem cC (he : PE X e te) (hs : swapsWith e none pos.line X.env = pure false := by rfl) : PS X (.Expr e pos) (vV te) := by
 intro pins s σ H D I h
 exact wpAny_Expr_any (thn (he pins s σ H _ I h) fun v s1 ⟨x, H1, I1, r1, q1⟩ => ⟨σ, H1, I1, q1⟩) I.quiet hs
def wz (te : TE) : TS := fun D σ H => te σ H D.rt
theorem aD (he : PE X e te) : PS X (.Return (some e) pos) (wz te) := by
 intro pins s σ H D I h
 exact wpAny_Return_some (thn (he pins s σ H _ I h) fun v s1 ⟨x, H1, I1, r1, q1⟩ => ⟨x, σ, H1, I1, r1, q1⟩)
def wl (c : TT) (t u : TS) : TS := fun D σ H => c σ H fun b H1 => if b = true then t D σ H1 else u D σ H1
theorem bv {c : Expr} {a b : List Stmt} {tc : TT} (hc : PT X c tc) (ha : PSs X a t) (hb : PSs X b u) : PS X (.If c a b pos) (wl tc t u) := by
 intro pins s σ H D I h
 refine wpAny_If (thn (hc pins s σ H _ I h) fun d s1 ⟨H1, I1, q1⟩ => ?_)
 cases d with
 | true => exact ha pins s1 σ H1 D I1 q1
 | false => exact hb pins s1 σ H1 D I1 q1
end
abbrev TG := V -> St -> Hp -> (St -> Hp -> Prop) -> Prop
abbrev TGs := List V -> St -> Hp -> (St -> Hp -> Prop) -> Prop
def PG (X : Cx) (target : Expr) (t : TG) : Prop :=
 ∀ (pins : List (Addr × Obj)) (s : Shared) (σ : St) (H : Hp) (v : V) (u : Value) (Q : St -> Hp -> Prop), Inv X pins σ H s -> aR v u -> t v σ H Q ->
  wpAny (model X.prog X.w) X.A (assign target X.env u) (fun _ s' => ∃ σ' H', Inv X pins σ' H' s' /\ Q σ' H') X.xe s
def PGs (X : Cx) (ts : List Expr) (t : TGs) : Prop :=
 ∀ (pins : List (Addr × Obj)) (s : Shared) (σ : St) (H : Hp) (vs : List V) (us : List Value) (Q : St -> Hp -> Prop), Inv X pins σ H s -> aF vs us -> t vs σ H Q ->
  wpAny (model X.prog X.w) X.A (assignInOrder ((assignEach ts X.env).map (·.2)) us) (fun _ s' => ∃ σ' H', Inv X pins σ' H' s' /\ Q σ' H') X.xe s
abbrev ui := V -> V -> V -> Hp -> (Hp -> Prop) -> Prop
def vn (X : Cx) (t : ui) : Prop :=
 ∀ (pins : List (Addr × Obj)) (s : Shared) (σ : St) (H : Hp) (o i v : V) (ov iv u : Value) (Q : Hp -> Prop), Inv X pins σ H s -> aR o ov -> aR i iv -> aR v u -> t o i v H Q ->
  wpAny (model X.prog X.w) X.A (setItem ov iv u) (fun _ s' => ∃ H', Inv X pins σ H' s' /\ Q H') X.xe s
section
variable {X : Cx} {pos : Pos}
def cV (i : Nat) : TG := fun v σ H Q => Q (σ.set i (some v)) H
theorem aL {i : Nat} {x : Str} (hN : X.N.Nodup) (hi : X.N[i]? = some x) (hx : Loc X.env.scope x) (hf : X.fn x = true \/ X.env.scope.names.lookup x = some .local := by first | exact .inl rfl | exact .inr rfl | assumption) : PG X (.Name x pos) (cV i) := by
 intro pins s σ H v u Q I r h
 exact wpAny_assign_Name (kB I hN hi hx r (fun s' I' => ⟨_, H, I', h⟩) hf)
def mD : TGs := fun vs σ H Q => vs = [] /\ Q σ H
def eV (t : TG) (u : TGs) : TGs := fun vs σ H Q => ∃ v r, vs = v :: r /\ t v σ H fun σ' H' => u r σ' H' Q
theorem bN : PGs X [] mD := by
 intro pins s σ H vs us Q I r h
 obtain ⟨e, h⟩ := h
 subst e
 cases r
 exact assignInOrder_nil ⟨σ, H, I, h⟩
theorem aN {e : Expr} {es : List Expr} {t : TG} {u : TGs} (h1 : PG X e t) (h2 : PGs X es u)
  (hs : (assignEach (e :: es) X.env).map (·.2) = assign e X.env :: (assignEach es X.env).map (·.2) := by rfl) : PGs X (e :: es) (eV t u) := by
 intro pins s σ H vs us Q I r h
 obtain ⟨v, vr, e1, h⟩ := h
 subst e1
 cases r with
 | cons r rr =>
  rw [hs]
  refine assignInOrder_cons (thn (h1 pins s σ H _ _ _ I r h) fun _ s1 ⟨σ1, H1, I1, q1⟩ => ?_)
  exact h2 pins s1 σ1 H1 _ _ Q I1 rr q1
def qD (K : PySem.W.Frag) (n : Nat) (t : TGs) : TG := fun v σ H Q => ∃ a xs, v = .ref a /\ SqT K H a xs /\ xs.length = n /\ t xs σ H Q
theorem cp {es : List Expr} {k : Nat} {t : TGs} {n : Nat} (hc : X.calm = true) (h : PGs X es t)
  (hn : (assignEach es X.env).length = n := by rfl) (hst : (assignEach es X.env).findIdx? (·.1) = none := by rfl) : PG X (.Tuple es k pos) (qD X.K n t) := by
 intro pins s σ H v u Q I r hw
 obtain ⟨a, xs, e1, hq, hl, hw⟩ := hw
 subst e1
 cases r
 obtain ⟨its, rv, ht, hz⟩ := I.tuple hq
 refine assign_Tuple_tuple (I.ok.hd hc) ht (by simp [hn, <- hl, rv.length]) hst fun h' hx => ?_
 have I1 : Inv X pins σ H { s with heap := h' } := I.kept (t' := s.toks) fun b o e => hx b o (Nat.ne_of_lt (Heap.lt_size e)) e
 exact h pins _ σ H xs _ Q I1 (by simpa using rv) hw
def wp (to ti : TE) (t : ui) : TG := fun v σ H Q => to σ H fun o H1 => ti σ H1 fun i H2 => t o i v H2 fun H3 => Q σ H3
theorem tS {o i : Expr} {to ti : TE} {t : ui} (ho : PE X o to) (hi : PE X i ti) (hs : vn X t)
  (ha : ∀ v, assign (.Subscript o i pos) X.env v = (do
   let ov <- holding [v] (eval o X.env)
   let iv <- holding [v, ov] (eval i X.env)
   standAt pos
   holding [v, ov, iv] (setItem ov iv v)
   release [v, ov, iv] []) := by intro _; rfl) : PG X (.Subscript o i pos) (wp to ti t) := by
 intro pins s σ H v u Q I r h
 rw [ha]
 refine wpAny_bind (wpAny_holding (thn (ho pins s σ H _ I h) fun ov s1 ⟨x, H1, I1, r1, q1⟩ => ?_))
 refine wpAny_bind (wpAny_holding (thn (hi pins s1 σ H1 _ I1 q1) fun iv s2 ⟨y, H2, I2, r2, q2⟩ => ?_))
 refine wpAny_bind (wpAny_standAt (wpAny_bind (wpAny_holding (thn (hs pins s2 σ H2 x y v ov iv u _ I2 r1 r2 r q2) fun _ s3 ⟨H3, I3, q3⟩ => ?_))))
 exact wpAny_release ⟨σ, H3, I3, q3⟩
def ue (te : TE) (g : TG) : TS := fun D σ H => te σ H fun x H1 => g x σ H1 D.nx
theorem tR {tg e : Expr} {te : TE} {g : TG} (he : PE X e te) (hg : PG X tg g) (hs : swapsWithSole [tg] e pos.line X.env = pure false := by rfl) (hw : swappedStores [tg] e X.env = pure none := by rfl)
  (h1 : (assignEach [tg] X.env).map (·.2) = [assign tg X.env] := by rfl) : PS X (.Assign [tg] e pos) (ue te g) := by
 intro pins s σ H D I h
 refine wpAny_Assign_stores (thn (he pins s σ H _ I h) fun v s1 ⟨x, H1, I1, r1, q1⟩ => ?_) hs hw
 rw [h1]
 exact thn (hg pins s1 σ H1 x v _ I1 r1 q1) fun _ s2 q => q
theorem aB {i : Nat} {x : Str} {e : Expr} {te : TE} {pos' : Pos} (hN : X.N.Nodup) (hi : X.N[i]? = some x) (hx : Loc X.env.scope x) (he : PE X e te) (hs : swapsWith e (some (.Name x pos')) pos.line X.env = pure false := by rfl) (hf : X.fn x = true \/ X.env.scope.names.lookup x = some .local := by first | exact .inl rfl | exact .inr rfl | assumption) :
  PS X (.Assign [.Name x pos'] e pos) (ue te (cV i)) := by
 intro pins s σ H D I h
 refine wpAny_Assign_Name (thn (he pins s σ H _ I h) fun v s1 ⟨y, H1, I1, r1, q1⟩ => ?_) hs
 exact kB I1 hN hi hx r1 (fun s2 I2 => ⟨_, H1, I2, q1⟩) hf
end
section
variable {X : Cx} {pos : Pos}
def qi (c : TT) (tb : TS) : TS := fun D σ H => ∃ W : Nat -> St -> Hp -> Prop, (∃ m, W m σ H) /\ ∀ m σ H, W m σ H ->
 c σ H fun b H1 => if b = true then ∃ N : St -> Hp -> Prop, (∀ σ' H', N σ' H' -> ∃ m', m' < m /\ W m' σ' H') /\ tb { D with nx := N, ct := N, bk := D.nx } σ H1 else D.nx σ H1
theorem io {c : Expr} {body : List Stmt} {tc : TT} {tb : TS} (hp : PassesOwn (model X.prog X.w) X.A X.env X.xe) (hc : PT X c tc) (hb : PSs X body tb) : PS X (.While c body [] pos) (qi tc tb) := by
 intro pins s σ H D I h
 obtain ⟨W, ⟨m0, w0⟩, turn⟩ := h
 refine wpAny_While (codeAny_whileLoop (fun n s' => ∃ σ' H', Inv X pins σ' H' s' /\ W n σ' H') ?_ m0 ⟨σ, H, I, w0⟩)
 rintro n s1 ⟨σ1, H1, I1, w1⟩
 refine wpAny_passesOwn hp (thn (hc pins s1 σ1 H1 _ I1 (turn n σ1 H1 w1)) fun b s2 ⟨H2, I2, q2⟩ => ?_)
 cases b with
 | true =>
  obtain ⟨N, hN, q2⟩ := q2
  rw [if_pos rfl]
  refine wpAny_passesOwn hp (thn (hb pins s2 σ1 H2 _ I2 q2) fun f s3 q3 => ?_)
  cases f with
  | next =>
   obtain ⟨σ3, H3, I3, n3⟩ := q3
   obtain ⟨m', hm, w3⟩ := hN σ3 H3 n3
   exact ⟨m', hm, σ3, H3, I3, w3⟩
  | cont =>
   obtain ⟨σ3, H3, I3, n3⟩ := q3
   obtain ⟨m', hm, w3⟩ := hN σ3 H3 n3
   exact ⟨m', hm, σ3, H3, I3, w3⟩
  | brk => exact q3
  | ret v => exact q3
 | false =>
  rw [if_neg Bool.false_ne_true]
  exact wpAny_execs_nil ⟨σ1, H2, I2, q2⟩
end
structure It where
 go : Nat -> Hp -> Prop
 yld : Nat -> Hp -> V -> Hp -> Prop
 stop : Nat -> Hp -> Prop
def iA (X : Cx) (pins : List (Addr × Obj)) (H : Hp) (b : Addr) : Prop :=
 H b = none /\ b ≠ X.env.locals /\ b ∉ X.fs /\ (b ∈ X.ex \/ X.s₀.heap.objs.size <= b) /\ (∀ x c, X.env.cells.lookup x = some c -> c ≠ b) /\ ∀ p ∈ X.pn ++ pins, p.1 ≠ b
theorem Inv.fpOk {X : Cx} {pins : List (Addr × Obj)} {σ : St} {H H' : Hp} {s : Shared} {b : Addr} (I : Inv X pins σ H s) (hb : s.heap.objs.size <= b) (hn : H' b = none) : iA X pins H' b := by
 refine ⟨hn, Nat.ne_of_gt (Nat.lt_of_lt_of_le I.lt hb), I.nofs hb, .inr (Nat.le_trans I.sz hb), fun x c e z => ?_, fun p hp z => ?_⟩
 ·obtain ⟨v, q⟩ := I.cell x c e
  exact absurd (Nat.lt_of_lt_of_le q.lt (by rw [z]; exact hb)) (Nat.lt_irrefl _)
 ·exact absurd (Nat.lt_of_lt_of_le (Heap.lt_size (I.pin p hp).1) (by rw [z]; exact hb)) (Nat.lt_irrefl _)
structure jC (P : Program) (w : World) (K : PySem.W.Frag) (tg : Expr) (J : It) (fp : List Addr) (it : Addr) (tn : Nat -> Heap -> Prop) : Prop where
 mem : it ∈ fp
 obj : ∀ i h, tn i h -> ∀ b ∈ fp, ∃ o, h.get? b = some o /\ ∀ v, o.data ≠ .cell v
 keep : ∀ i h h', tn i h -> (∀ b ∈ fp, ∀ o, h.get? b = some o -> h'.get? b = some o) -> tn i h'
 item : ∀ (X : Cx), X.prog = P -> X.w = w -> X.K = K -> X.calm = true -> ∀ (i : Nat) (pins : List (Addr × Obj)) (s : Shared) (σ : St) (H : Hp) (E : Value -> Shared -> Prop), Inv X pins σ H s -> (∀ b ∈ fp, iA X pins H b) -> tn i s.heap -> J.go i H ->
  wpAny (model P w) X.A (pyNext (.ref it)) (fun r s1 => ∃ u, r = some u /\
   wpAny (model P w) X.A (letOwnedTupleGo tg (.ref it) u) (fun _ s2 => ∃ x H', Inv X pins σ H' s2 /\ aR x u /\ J.yld i H x H' /\ tn (i + 1) s2.heap /\ ∀ b ∈ fp, H' b = none) E s1) E s
 done : ∀ (X : Cx), X.prog = P -> X.w = w -> X.K = K -> X.calm = true -> ∀ (i : Nat) (pins : List (Addr × Obj)) (s : Shared) (σ : St) (H : Hp) (E : Value -> Shared -> Prop), Inv X pins σ H s -> (∀ b ∈ fp, iA X pins H b) -> tn i s.heap -> J.stop i H ->
  wpAny (model P w) X.A (pyNext (.ref it)) (fun r s1 => r = none /\ Inv X pins σ H s1) E s
 self : ∀ (A : Around) (i : Nat) (s : Shared) (Q : Value -> Shared -> Prop) (E : Value -> Shared -> Prop), tn i s.heap -> Q (.ref it) s -> wpAny (model P w) A (pyIter (.ref it)) Q E s
abbrev TI := St -> Hp -> (It -> Hp -> Prop) -> Prop
def PIE (X : Cx) (pins : List (Addr × Obj)) (σ : St) (tg : Expr) (R : It -> Hp -> Prop) (itv : Value) (s2 : Shared) : Prop :=
 ∃ (it : Addr) (fp : List Addr) (tn : Nat -> Heap -> Prop) (J : It) (H' : Hp), itv = .ref it /\ Inv X pins σ H' s2 /\ jC X.prog X.w X.K tg J fp it tn /\ tn 0 s2.heap /\ (∀ b ∈ fp, iA X pins H' b) /\ R J H'
def PI (X : Cx) (tg iter : Expr) (wi : TI) : Prop :=
 ∀ (pins : List (Addr × Obj)) (s : Shared) (σ : St) (H : Hp) (R : It -> Hp -> Prop), Inv X pins σ H s -> wi σ H R ->
  wpAny (model X.prog X.w) X.A (eval iter X.env) (fun v s1 => wpAny (model X.prog X.w) X.A (pyIter v) (PIE X pins σ tg R) X.xe s1) X.xe s
theorem rC {M : Model} {A : Around} {E : Value -> Shared -> Prop} {s : Shared} {tg : Expr} {it : Addr} {u : Value} {o : Obj} {n : String} {vs : Array Value} {Q : Unit -> Shared -> Prop} (ho : s.heap.get? it = some o) (hc : o.cls = .type n) (hd : o.data = .fields vs)
  (hn : ["enumerate", "zip", "dict_itemiterator", "dict_reverseitemiterator", "odict_iterator", "itertools.zip_longest", "itertools.pairwise"].contains n = false) (hQ : Q () s) : wpAny M A (letOwnedTupleGo tg (.ref it) u) Q E s := by
 unfold letOwnedTupleGo
 cases tg <;> first
  | exact wpAny_pure hQ
  | (cases u <;> first
    | exact wpAny_pure hQ
    | (refine wpAny_bind (wpAny_load ho ?_)
       rw [hc, hd]
       show wpAny M A (if (["enumerate", "zip", "dict_itemiterator", "dict_reverseitemiterator", "odict_iterator", "itertools.zip_longest", "itertools.pairwise"].contains n && vs[0]? == some (rawInt _)) = true then _ else _) Q E s
       rw [if_neg (by intro h; rw [hn, Bool.false_and] at h; cases h)]
       exact wpAny_pure hQ))
def Itl (K : PySem.W.Frag) (a : Addr) : It :=
 ⟨fun i H => ∃ xs x, SqL K H a xs /\ xs[i]? = some x, fun i H x H' => H' = H /\ ∀ xs, SqL K H a xs -> xs[i]? = some x, fun i H => ∃ xs, SqL K H a xs /\ xs.length <= i⟩
def Itt (K : PySem.W.Frag) (a : Addr) : It :=
 ⟨fun i H => ∃ xs x, SqT K H a xs /\ xs[i]? = some x, fun i H x H' => H' = H /\ ∀ xs, SqT K H a xs -> xs[i]? = some x, fun i H => ∃ xs, SqT K H a xs /\ xs.length <= i⟩
def Itr (lo : Int) (n : Nat) : It := ⟨fun i _ => i < n, fun i H x H' => H' = H /\ x = .int (lo + i), fun i _ => n <= i⟩
theorem ph {P : Program} {w : World} {K : PySem.W.Frag} {tg : Expr} (a it : Addr) : jC P w K tg (Itl K a) [it] it (fun i h => h.IsListIter it a i) where
 mem := by simp
 obj := fun i h st b hb => by
  have e : b = it := by simpa using hb
  subst e
  obtain ⟨o, e, c, d⟩ := st
  exact ⟨o, e, fun v z => by rw [d] at z; cases z⟩
 keep := fun i h h' st k => st.at fun o e => k it (by simp) o e
 item := by
  intro X hP hw hK hc i pins s σ H E I hf st hg
  subst hP hw hK
  obtain ⟨xs, x, hq, hx⟩ := hg
  obtain ⟨its, rv, p, hz⟩ := I.list hq
  obtain ⟨u, hu, ru⟩ := rv.get hx
  obtain ⟨f0, f1, f2, f3, f4, f5⟩ := hf it (by simp)
  refine wpAny_pyNext_list_item st p.isList (x := u) (by simpa using hu) fun h' st' sb => ?_
  have I1 : Inv X pins σ H { s with heap := h' } := I.turned (t' := s.toks) (fun b o hb e => (sb.2 b hb).trans e) f0 f1 f3 f4 f5
  obtain ⟨o, e, c, d⟩ := id st'
  exact ⟨u, rfl, rC (s := { s with heap := h' }) e c d (by decide) ⟨x, H, I1, ru, ⟨rfl, fun ys hy => by rw [I.list_inj hy hq]; exact hx⟩, st', fun b hb => (hf b hb).1⟩⟩
 done := by
  intro X hP hw hK hc i pins s σ H E I hf st hg
  subst hP hw hK
  obtain ⟨xs, hq, hx⟩ := hg
  obtain ⟨its, rv, p, hz⟩ := I.list hq
  obtain ⟨f0, f1, f2, f3, f4, f5⟩ := hf it (by simp)
  have hl := rv.length
  exact wpAny_pyNext_list_end (I.ok.hd hc) st p.isList (by simp; omega) fun h' eb => ⟨rfl, I.turned (t' := s.toks) (fun b o hb e => eb b o hb e) f0 f1 f3 f4 f5⟩
 self := fun _ _ _ _ _ st h => wpAny_pyIter_listiter st h
theorem lW {P : Program} {w : World} {K : PySem.W.Frag} {tg : Expr} (a it : Addr) : jC P w K tg (Itt K a) [it] it (fun i h => h.IsTupleIter it a i) where
 mem := by simp
 obj := fun i h st b hb => by
  have e : b = it := by simpa using hb
  subst e
  obtain ⟨o, e, c, d⟩ := st
  exact ⟨o, e, fun v z => by rw [d] at z; cases z⟩
 keep := fun i h h' st k => st.at fun o e => k it (by simp) o e
 item := by
  intro X hP hw hK hc i pins s σ H E I hf st hg
  subst hP hw hK
  obtain ⟨xs, x, hq, hx⟩ := hg
  obtain ⟨its, rv, p, hz⟩ := I.tuple hq
  obtain ⟨u, hu, ru⟩ := rv.get hx
  obtain ⟨f0, f1, f2, f3, f4, f5⟩ := hf it (by simp)
  refine wpAny_pyNext_tuple_item st (show s.heap.IsTuple a its.toArray from p) (x := u) (by simpa using hu) fun h' st' sb => ?_
  have I1 : Inv X pins σ H { s with heap := h' } := I.turned (t' := s.toks) (fun b o hb e => (sb.2 b hb).trans e) f0 f1 f3 f4 f5
  obtain ⟨o, e, c, d⟩ := id st'
  exact ⟨u, rfl, rC (s := { s with heap := h' }) e c d (by decide) ⟨x, H, I1, ru, ⟨rfl, fun ys hy => by rw [I.tuple_inj hy hq]; exact hx⟩, st', fun b hb => (hf b hb).1⟩⟩
 done := by
  intro X hP hw hK hc i pins s σ H E I hf st hg
  subst hP hw hK
  obtain ⟨xs, hq, hx⟩ := hg
  obtain ⟨its, rv, p, hz⟩ := I.tuple hq
  obtain ⟨f0, f1, f2, f3, f4, f5⟩ := hf it (by simp)
  have hl := rv.length
  exact wpAny_pyNext_tuple_end (I.ok.hd hc) st (show s.heap.IsTuple a its.toArray from p) (by simp; omega) fun h' eb => ⟨rfl, I.turned (t' := s.toks) (fun b o hb e => eb b o hb e) f0 f1 f3 f4 f5⟩
 self := fun _ _ _ _ _ st h => wpAny_pyIter_tupleiter st h
theorem mG {P : Program} {w : World} {K : PySem.W.Frag} {tg : Expr} (it : Addr) (lo : Int) (n : Nat) : jC P w K tg (Itr lo n) [it] it (fun i h => IsRangeIter h it (lo + (i : Nat) * 1) ((n : Int) - (i : Nat)) 1) where
 mem := by simp
 obj := fun i h st b hb => by
  have e : b = it := by simpa using hb
  subst e
  exact ⟨_, st, fun v z => by
   have z' : Data.fields _ = Data.cell v := z
   cases z'⟩
 keep := fun i h h' st k => k it (by simp) _ st
 item := by
  intro X hP hw hK hc i pins s σ H E I hf st hg
  subst hP hw hK
  obtain ⟨f0, f1, f2, f3, f4, f5⟩ := hf it (by simp)
  have W := Walks.range (prog := X.prog) (w := X.w) (I.ok.hd hc) it lo 1 n
  refine W.item i s _ _ hg st fun v h' tk hv st' kk => ?_
  obtain ⟨t, rfl⟩ := hv
  have I1 : Inv X pins σ H { s with heap := h', toks := tk } := I.turned (fun b o hb e => kk b o (by simpa using hb) e) f0 f1 f3 f4 f5
  refine ⟨_, rfl, rC (s := { s with heap := h', toks := tk }) (n := "range_iterator") st' rfl rfl (by decide) ⟨.int (lo + i), H, I1, ⟨t, ?_⟩, ⟨rfl, rfl⟩, st', fun b hb => (hf b hb).1⟩⟩
  rw [Int.mul_one]
 done := by
  intro X hP hw hK hc i pins s σ H E I hf st hg
  subst hP hw hK
  obtain ⟨f0, f1, f2, f3, f4, f5⟩ := hf it (by simp)
  exact wpAny_pyNext_range_end (I.ok.hd hc) st (by have : n <= i := hg; omega) fun h' eb => ⟨rfl, I.turned (t' := s.toks) (fun b o hb e => eb b o hb e) f0 f1 f3 f4 f5⟩
 self := fun _ _ _ _ _ st h => wpAny_pyIter_rangeiter st h
section
variable {X : Cx} {tg : Expr}
def vK (K : PySem.W.Frag) (tl : TE) : TI := fun σ H R => tl σ H fun x H1 => ∃ a, x = .ref a /\ (∃ xs, SqL K H1 a xs) /\ R (Itl K a) H1
def wB (K : PySem.W.Frag) (tl : TE) : TI := fun σ H R => tl σ H fun x H1 => ∃ a, x = .ref a /\ (∃ xs, SqT K H1 a xs) /\ R (Itt K a) H1
theorem fC {l : Expr} {tl : TE} (hl : PE X l tl) : PI X tg l (vK X.K tl) := by
 intro pins s σ H R I h
 refine thn (hl pins s σ H _ I h) fun v s1 ⟨x, H1, I1, r1, q1⟩ => ?_
 obtain ⟨a, e, ⟨xs, hq⟩, q⟩ := q1
 subst e
 cases r1
 obtain ⟨its, rv, p, hz⟩ := I1.list hq
 refine wpAny_pyIter_list p.isList ?_
 refine ⟨s1.heap.objs.size, [s1.heap.objs.size], _, _, H1, rfl, I1.kept (t' := s1.toks) fun b o e => Heap.get?_push_of_some _ e, ph a _, ⟨_, Heap.get?_push_size _ rfl, rfl, rfl⟩, fun b hb => ?_, q⟩
 have e : b = s1.heap.objs.size := by simpa using hb
 subst e
 exact I1.fpOk (Nat.le_refl _) (I1.hok.fresh (Nat.le_refl _))
theorem dF {l : Expr} {tl : TE} (hl : PE X l tl) : PI X tg l (wB X.K tl) := by
 intro pins s σ H R I h
 refine thn (hl pins s σ H _ I h) fun v s1 ⟨x, H1, I1, r1, q1⟩ => ?_
 obtain ⟨a, e, ⟨xs, hq⟩, q⟩ := q1
 subst e
 cases r1
 obtain ⟨its, rv, p, hz⟩ := I1.tuple hq
 refine wpAny_pyIter_tuple (show s1.heap.IsTuple a its.toArray from p) ?_
 refine ⟨s1.heap.objs.size, [s1.heap.objs.size], _, _, H1, rfl, I1.kept (t' := s1.toks) fun b o e => Heap.get?_push_of_some _ e, lW a _, ⟨_, Heap.get?_push_size _ rfl, rfl, rfl⟩, fun b hb => ?_, q⟩
 have e : b = s1.heap.objs.size := by simpa using hb
 subst e
 exact I1.fpOk (Nat.le_refl _) (I1.hok.fresh (Nat.le_refl _))
theorem rj {pins : List (Addr × Obj)} {σ : St} {H : Hp} {s : Shared} {R : It -> Hp -> Prop} {E : Value -> Shared -> Prop} {lo hi : Int} {t u v : Tok} {tk : Nat} (I : Inv X pins σ H s) (h1 : -(2 ^ 62) <= lo) (h2 : lo < 2 ^ 62) (h3 : -(2 ^ 62) <= hi) (h4 : hi < 2 ^ 62)
  (q : R (Itr lo (hi - lo).toNat) H) : wpAny (model X.prog X.w) X.A (pyIter (.ref s.heap.objs.size)) (PIE X pins σ tg R) E { s with heap := s.heap.push { cls := .type "range", data := .fields #[.int lo t, .int hi u, .int 1 v] }, toks := tk } := by
 refine wpAny_pyIter_range (IsRange.new ..) (small_one h1 h2 h3 h4) ?_
 have I1 : Inv X pins σ H { s with heap := s.heap.push { cls := .type "range", data := .fields #[.int lo t, .int hi u, .int 1 v] }, toks := tk } := I.kept fun b o e => Heap.get?_push_of_some _ e
 refine ⟨(s.heap.push { cls := .type "range", data := .fields #[.int lo t, .int hi u, .int 1 v] }).objs.size, [(s.heap.push { cls := .type "range", data := .fields #[.int lo t, .int hi u, .int 1 v] }).objs.size], _, _, H, rfl,
  I1.kept (t' := tk) fun b o e => Heap.get?_push_of_some _ e, mG _ lo (hi - lo).toNat, ?_, fun b hb => ?_, q⟩
 ·have e1 : lo + ((0 : Nat) : Int) * 1 = lo := by simp
  have e2 : (((hi - lo).toNat : Nat) : Int) - ((0 : Nat) : Int) = Builtin.Range.rangeSize lo hi 1 := by rw [rangeSize_one]; split <;> omega
  show IsRangeIter _ _ (lo + ((0 : Nat) : Int) * 1) ((((hi - lo).toNat : Nat) : Int) - ((0 : Nat) : Int)) 1
  rw [e1, e2]
  exact Heap.get?_push_size _ rfl
 ·have e : b = (s.heap.push { cls := .type "range", data := .fields #[.int lo t, .int hi u, .int 1 v] }).objs.size := by simpa using hb
  subst e
  exact I1.fpOk (Nat.le_refl _) (I1.hok.fresh (Nat.le_refl _))
def vt (ta : TA) : TI := fun σ H R => ta σ H fun vs H1 => ∃ j : Int, vs = [.int j] /\ -(2 ^ 62) <= j /\ j < 2 ^ 62 /\ R (Itr 0 j.toNat) H1
theorem gk {a : Expr} {ta : TA} {p pos : Pos} (hg : Gl X "range") (hm : X.mg "range" = none) (ha : PA X [a] ta) (hs : starEach [a] X.env = [(false, eval a X.env)] := by rfl) : PI X tg (.Call (.Name "range" p) [a] [] pos) (vt ta) := by
 intro pins s σ H R I h
 refine Call_ (eB I hg hm boot_range (PyProof.Rows.callWith_type1 (thn (ha pos pins s σ H _ I h) fun us s1 ⟨vs, H1, I1, r1, q1⟩ => ?_) hs rfl))
 obtain ⟨j, e, q1, q2, q⟩ := q1
 subst e
 cases r1 with
 | cons r rr =>
  cases rr
  obtain ⟨t, rfl⟩ := r
  exact call_range_1 (rj I1 (by omega) (by omega) q1 q2 (by simpa using q))
def wb (wi : TI) (g : TG) (tb : TS) : TS := fun D σ H => wi σ H fun J H1 => ∃ W : Nat -> Nat -> St -> Hp -> Prop, (∃ m, W 0 m σ H1) /\ ∀ i m σ H, W i m σ H ->
 (J.stop i H /\ D.nx σ H) \/ (J.go i H /\ ∃ N : St -> Hp -> Prop, (∀ σ' H', N σ' H' -> ∃ m', m' < m /\ W (i + 1) m' σ' H') /\ ∀ x H', J.yld i H x H' -> g x σ H' fun σ2 H2 => tb { D with nx := N, ct := N, bk := D.nx } σ2 H2)
def gT (fp : List Addr) (h : Heap) : List (Addr × Obj) := fp.filterMap fun b => (h.get? b).map fun o => (b, o)
theorem dO {fp : List Addr} {h : Heap} {b : Addr} {o : Obj} (hb : b ∈ fp) (e : h.get? b = some o) : (b, o) ∈ gT fp h := List.mem_filterMap.mpr ⟨b, hb, by rw [e]; rfl⟩
theorem oT {fp : List Addr} {h : Heap} {p : Addr × Obj} (hp : p ∈ gT fp h) : p.1 ∈ fp /\ h.get? p.1 = some p.2 := by
 obtain ⟨b, hb, e⟩ := List.mem_filterMap.mp hp
 cases q : h.get? b with
 | none => rw [q] at e; cases e
 | some o =>
  rw [q] at e
  have e' : (b, o) = p := Option.some.inj e
  subst e'
  exact ⟨hb, q⟩
theorem Inv.pinned {pins : List (Addr × Obj)} {σ : St} {H : Hp} {s : Shared} {fp : List Addr} (I : Inv X pins σ H s) (hf : ∀ b ∈ fp, iA X pins H b) (ho : ∀ b ∈ fp, ∃ o, s.heap.get? b = some o /\ ∀ v, o.data ≠ .cell v) : Inv X (pins ++ gT fp s.heap) σ H s :=
 I.pins_of fun p hp => (List.mem_append.mp hp).elim (fun z => I.pin p (List.mem_append_right _ z)) fun z => by
  obtain ⟨hb, e⟩ := oT z
  obtain ⟨f0, f1, f2, _⟩ := hf p.1 hb
  obtain ⟨o, e', d⟩ := ho p.1 hb
  rw [e] at e'; cases e'
  exact ⟨e, f0, f1, f2, d⟩
theorem Inv.unpinned {pins pl : List (Addr × Obj)} {σ : St} {H : Hp} {s : Shared} (I : Inv X (pins ++ pl) σ H s) : Inv X pins σ H s := I.pins_of fun p hp => I.pin p (List.mem_append_right _ (List.mem_append_left _ hp))
theorem cZ {iter : Expr} {body : List Stmt} {wi : TI} {g : TG} {tb : TS} {pos : Pos} (hp : PassesOwn (model X.prog X.w) X.A X.env X.xe) (hc : X.calm = true) (hi : PI X tg iter wi) (hg : PG X tg g) (hb : PSs X body tb)
  (hs : ∀ x, foldedSetIterable iter X.env x = pure x := by intro _; rfl) : PS X (.For tg iter body [] pos) (wb wi g tb) := by
 intro pins s σ H D I h
 refine wpAny_For (thn (hi pins s σ H _ I h) fun v s1 h1 => thn h1 fun itv s2 h2 => ?_) hs
 obtain ⟨it, fp, tn, J, H2, e, I2, T, st2, f2, W, ⟨m0, w0⟩, turn⟩ := h2
 subst e
 have stat : ∀ {H' : Hp}, (∀ b ∈ fp, H' b = none) -> ∀ b ∈ fp, iA X pins H' b := fun hn b hb => ⟨hn b hb, (f2 b hb).2⟩
 refine codeAny_forLoop_any (fun n s' => ∃ i σ' H', Inv X pins σ' H' s' /\ tn i s'.heap /\ (∀ b ∈ fp, H' b = none) /\ W i n σ' H') ?_ m0 ⟨0, σ, H2, I2, st2, fun b hb => (f2 b hb).1, w0⟩
 rintro n s3 ⟨i, σ3, H3, I3, st3, fr3, w3⟩
 rcases turn i n σ3 H3 w3 with ⟨stop, qn⟩ | ⟨go, N, hN, step⟩
 ·refine wpAny_passesOwn hp (thn (T.done X rfl rfl rfl hc i pins s3 σ3 H3 X.xe I3 (stat fr3) st3 stop) fun r s4 ⟨hr, I4⟩ => ?_)
  subst hr
  exact wpAny_execs_nil ⟨σ3, H3, I4, qn⟩
 ·refine wpAny_passesOwn hp (thn (T.item X rfl rfl rfl hc i pins s3 σ3 H3 X.xe I3 (stat fr3) st3 go) fun r s4 ⟨u, hr, h4⟩ => ?_)
  subst hr
  refine wpAny_passesOwn hp (thn h4 fun _ s5 ⟨x, H5, I5, r5, y5, st5, fr5⟩ => ?_)
  have I5' := I5.pinned (stat fr5) (T.obj _ _ st5)
  refine wpAny_passesOwn hp (thn (hg _ s5 σ3 H5 x u _ I5' r5 (step x H5 y5)) fun _ s6 ⟨σ6, H6, I6, q6⟩ => ?_)
  refine wpAny_passesOwn hp (thn (hb _ s6 σ6 H6 _ I6 q6) fun f s7 q7 => ?_)
  have again : ∀ {σ7 : St} {H7 : Hp}, Inv X (pins ++ gT fp s5.heap) σ7 H7 s7 -> N σ7 H7 -> ∃ m, m < n /\ ∃ i σ' H', Inv X pins σ' H' s7 /\ tn i s7.heap /\ (∀ b ∈ fp, H' b = none) /\ W i m σ' H' := fun {σ7 H7} I7 n7 => by
   obtain ⟨m', hm, w7⟩ := hN σ7 H7 n7
   refine ⟨m', hm, i + 1, σ7, H7, I7.unpinned, T.keep _ _ _ st5 fun b hb o e => (I7.pin (b, o) (List.mem_append_right _ (List.mem_append_right _ (dO hb e)))).1, fun b hb => ?_, w7⟩
   obtain ⟨o, e, d⟩ := T.obj _ _ st5 b hb
   exact (I7.pin (b, o) (List.mem_append_right _ (List.mem_append_right _ (dO hb e)))).2.1
  cases f with
  | next => obtain ⟨σ7, H7, I7, n7⟩ := q7; exact again I7 n7
  | cont => obtain ⟨σ7, H7, I7, n7⟩ := q7; exact again I7 n7
  | brk => obtain ⟨σ7, H7, I7, q7⟩ := q7; exact ⟨σ7, H7, I7.unpinned, q7⟩
  | ret v => obtain ⟨x7, σ7, H7, I7, r7, q7⟩ := q7; exact ⟨x7, σ7, H7, I7.unpinned, r7, q7⟩
end
theorem gS {K : PySem.W.Frag} {a : Addr} {xs : List V} {g : TG} {tb : TS} {D : fF} {σ : St} {H : Hp} (Pv : Nat -> St -> Hp -> Prop) (h0 : Pv 0 σ H) (hl : ∀ i σ H, i <= xs.length -> Pv i σ H -> SqL K H a xs)
  (hs : ∀ i x σ H, xs[i]? = some x -> Pv i σ H -> g x σ H fun σ2 H2 => tb { D with nx := Pv (i + 1), ct := Pv (i + 1), bk := D.nx } σ2 H2) (hd : ∀ σ H, Pv xs.length σ H -> D.nx σ H) :
  ∃ W : Nat -> Nat -> St -> Hp -> Prop, (∃ m, W 0 m σ H) /\ ∀ i m σ H, W i m σ H ->
   ((Itl K a).stop i H /\ D.nx σ H) \/ ((Itl K a).go i H /\ ∃ N : St -> Hp -> Prop, (∀ σ' H', N σ' H' -> ∃ m', m' < m /\ W (i + 1) m' σ' H') /\ ∀ x H', (Itl K a).yld i H x H' -> g x σ H' fun σ2 H2 => tb { D with nx := N, ct := N, bk := D.nx } σ2 H2) := by
 refine ⟨fun i m σ H => m = xs.length - i /\ i <= xs.length /\ Pv i σ H, ⟨xs.length, by simp, Nat.zero_le _, h0⟩, ?_⟩
 rintro i m σ H ⟨rfl, hi, p⟩
 have q := hl i σ H hi p
 by_cases hlt : i < xs.length
 ·refine .inr ⟨⟨xs, xs[i], q, by simp [hlt]⟩, Pv (i + 1), fun σ' H' p' => ⟨xs.length - (i + 1), by omega, rfl, hlt, p'⟩, fun x H' y => ?_⟩
  obtain ⟨e, y⟩ := y
  subst e
  exact hs i x σ _ (y xs q) p
 ·have e : i = xs.length := by omega
  subst e
  exact .inl ⟨⟨xs, q, Nat.le_refl _⟩, hd σ H p⟩
theorem fG {K : PySem.W.Frag} {a : Addr} {xs : List V} {g : TG} {tb : TS} {D : fF} {σ : St} {H : Hp} (Pv : Nat -> St -> Hp -> Prop) (h0 : Pv 0 σ H) (hl : ∀ i σ H, i <= xs.length -> Pv i σ H -> SqT K H a xs)
  (hs : ∀ i x σ H, xs[i]? = some x -> Pv i σ H -> g x σ H fun σ2 H2 => tb { D with nx := Pv (i + 1), ct := Pv (i + 1), bk := D.nx } σ2 H2) (hd : ∀ σ H, Pv xs.length σ H -> D.nx σ H) :
  ∃ W : Nat -> Nat -> St -> Hp -> Prop, (∃ m, W 0 m σ H) /\ ∀ i m σ H, W i m σ H ->
   ((Itt K a).stop i H /\ D.nx σ H) \/ ((Itt K a).go i H /\ ∃ N : St -> Hp -> Prop, (∀ σ' H', N σ' H' -> ∃ m', m' < m /\ W (i + 1) m' σ' H') /\ ∀ x H', (Itt K a).yld i H x H' -> g x σ H' fun σ2 H2 => tb { D with nx := N, ct := N, bk := D.nx } σ2 H2) := by
 refine ⟨fun i m σ H => m = xs.length - i /\ i <= xs.length /\ Pv i σ H, ⟨xs.length, by simp, Nat.zero_le _, h0⟩, ?_⟩
 rintro i m σ H ⟨rfl, hi, p⟩
 have q := hl i σ H hi p
 by_cases hlt : i < xs.length
 ·refine .inr ⟨⟨xs, xs[i], q, by simp [hlt]⟩, Pv (i + 1), fun σ' H' p' => ⟨xs.length - (i + 1), by omega, rfl, hlt, p'⟩, fun x H' y => ?_⟩
  obtain ⟨e, y⟩ := y
  subst e
  exact hs i x σ _ (y xs q) p
 ·have e : i = xs.length := by omega
  subst e
  exact .inl ⟨⟨xs, q, Nat.le_refl _⟩, hd σ H p⟩
theorem oP {lo : Int} {n : Nat} {g : TG} {tb : TS} {D : fF} {σ : St} {H : Hp} (Pv : Nat -> St -> Hp -> Prop) (h0 : Pv 0 σ H)
  (hs : ∀ i σ H, i < n -> Pv i σ H -> g (.int (lo + i)) σ H fun σ2 H2 => tb { D with nx := Pv (i + 1), ct := Pv (i + 1), bk := D.nx } σ2 H2) (hd : ∀ σ H, Pv n σ H -> D.nx σ H) :
  ∃ W : Nat -> Nat -> St -> Hp -> Prop, (∃ m, W 0 m σ H) /\ ∀ i m σ H, W i m σ H ->
   ((Itr lo n).stop i H /\ D.nx σ H) \/ ((Itr lo n).go i H /\ ∃ N : St -> Hp -> Prop, (∀ σ' H', N σ' H' -> ∃ m', m' < m /\ W (i + 1) m' σ' H') /\ ∀ x H', (Itr lo n).yld i H x H' -> g x σ H' fun σ2 H2 => tb { D with nx := N, ct := N, bk := D.nx } σ2 H2) := by
 refine ⟨fun i m σ H => m = n - i /\ i <= n /\ Pv i σ H, ⟨n, by simp, Nat.zero_le _, h0⟩, ?_⟩
 rintro i m σ H ⟨rfl, hi, p⟩
 by_cases hlt : i < n
 ·refine .inr ⟨hlt, Pv (i + 1), fun σ' H' p' => ⟨n - (i + 1), by omega, rfl, hlt, p'⟩, fun x H' y => ?_⟩
  obtain ⟨e, y⟩ := y
  subst e y
  exact hs i σ _ hlt p
 ·have e : i = n := by omega
  subst e
  exact .inl ⟨Nat.le_refl _, hd σ H p⟩
abbrev R2 := V -> V -> Hp -> VK -> Prop
def OpR (X : Cx) (f : Value -> Value -> Sem Value) (r : R2) : Prop :=
 ∀ (pins : List (Addr × Obj)) (s : Shared) (σ : St) (H : Hp) (x y : V) (v u : Value) (Q : VK), Inv X pins σ H s -> aR x v -> aR y u -> r x y H Q ->
  wpAny (model X.prog X.w) X.A (f v u) (EP X pins σ Q) X.xe s
def UnR (X : Cx) (f : Value -> Sem Value) (r : V -> Hp -> VK -> Prop) : Prop :=
 ∀ (pins : List (Addr × Obj)) (s : Shared) (σ : St) (H : Hp) (x : V) (v : Value) (Q : VK), Inv X pins σ H s -> aR x v -> r x H Q ->
  wpAny (model X.prog X.w) X.A (f v) (EP X pins σ Q) X.xe s
def cA (X : Cx) (f : Value) (r : List V -> Hp -> VK -> Prop) : Prop :=
 ∀ (pins : List (Addr × Obj)) (s : Shared) (σ : St) (H : Hp) (xs : List V) (us : List Value) (Q : VK), Inv X pins σ H s -> aF xs us -> r xs H Q ->
  wpAny (model X.prog X.w) X.A (call f us) (EP X pins σ Q) X.xe s
def vY (X : Cx) (r : V -> Hp -> (Bool -> Hp -> Prop) -> Prop) : Prop :=
 ∀ (pins : List (Addr × Obj)) (s : Shared) (σ : St) (H : Hp) (x : V) (v : Value) (Q : Bool -> Hp -> Prop), Inv X pins σ H s -> aR x v -> r x H Q ->
  wpAny (model X.prog X.w) X.A (truthy v) (TP X pins σ Q) X.xe s
def tOp (r : R2) (ta tb : TE) : TE := fun σ H Q => ta σ H fun x H1 => tb σ H1 fun y H2 => r x y H2 Q
def tUn (r : V -> Hp -> VK -> Prop) (ta : TE) : TE := fun σ H Q => ta σ H fun x H1 => r x H1 Q
def rI (C : Int -> Int -> Prop) (g : Int -> Int -> V) : R2 := fun x y H Q => ∃ i j, x = .int i /\ y = .int j /\ C i j /\ Q (g i j) H
def rI0 (g : Int -> Int -> V) : R2 := fun x y H Q => ∃ i j, x = .int i /\ y = .int j /\ Q (g i j) H
def rU (g : Int -> V) : V -> Hp -> VK -> Prop := fun x H Q => ∃ i, x = .int i /\ Q (g i) H
section
variable {X : Cx} {a b c : Expr} {ta tb tc : TE} {pos : Pos}
theorem uL (ha : PE X a ta) (hb : PE X b tb) {pins : List (Addr × Obj)} {s : Shared} {σ : St} {H : Hp} {R : V -> V -> Hp -> Prop} (I : Inv X pins σ H s)
  (h : ta σ H fun x H1 => tb σ H1 fun y H2 => R x y H2) {Q : Value -> Shared -> Prop} {f : Value -> Value -> Sem Value}
  (hf : ∀ v u s2 x y H2, Inv X pins σ H2 s2 -> aR x v -> aR y u -> R x y H2 -> wpAny (model X.prog X.w) X.A (f v u) Q X.xe s2) :
  wpAny (model X.prog X.w) X.A (eval a X.env) (fun v s₁ => wpAny (model X.prog X.w) X.A (eval b X.env) (fun u s₂ => wpAny (model X.prog X.w) X.A (f v u) Q X.xe s₂) X.xe s₁) X.xe s := by
 refine thn (ha pins s σ H _ I h) fun v s1 ⟨x, H1, I1, r1, q1⟩ => ?_
 refine thn (hb pins s1 σ H1 _ I1 q1) fun u s2 ⟨y, H2, I2, r2, q2⟩ => ?_
 exact hf v u s2 x y H2 I2 r1 r2 q2
theorem aq {op : Operator} {r : R2} (ho : OpR X (binaryOp op) r) (ha : PE X a ta) (hb : PE X b tb) : PE X (.BinOp a op b pos) (tOp r ta tb) := by
 intro pins s σ H Q I h
 exact wpAny_BinOp (uL ha hb I h fun v u s2 x y H2 I2 rx ry q => ho pins s2 σ H2 x y v u Q I2 rx ry q)
theorem tD {op : UnaryOp} {r : V -> Hp -> VK -> Prop} (ho : UnR X (unaryOp op) r) (ha : PE X a ta) : PE X (.UnaryOp op a pos) (tUn r ta) := by
 intro pins s σ H Q I h
 exact UnaryOp_ (thn (ha pins s σ H _ I h) fun v s1 ⟨x, H1, I1, r1, q1⟩ => ho pins s1 σ H1 x v Q I1 r1 q1)
theorem opI {f : Value -> Value -> Sem Value} {C : Int -> Int -> Prop} {g : Int -> Int -> Int}
  (rule : ∀ (i j : Int) (t u : Tok) (s : Shared) (Q : Value -> Shared -> Prop) (E : Value -> Shared -> Prop), C i j -> Q (.int (g i j) s.toks) { s with toks := s.toks + 1 } -> wpAny (model X.prog X.w) X.A (f (.int i t) (.int j u)) Q E s) :
  OpR X f (rI C fun i j => .int (g i j)) := by
 intro pins s σ H x y v u Q I rx ry h
 obtain ⟨i, j, rfl, rfl, hc, q⟩ := h
 obtain ⟨t, rfl⟩ := rx
 obtain ⟨t', rfl⟩ := ry
 exact rule i j t t' s _ _ hc ⟨.int (g i j), H, I.tok _, ⟨_, rfl⟩, q⟩
theorem vL {f : Value -> Value -> Sem Value} {g : Int -> Int -> Int}
  (rule : ∀ (i j : Int) (t u : Tok) (s : Shared) (Q : Value -> Shared -> Prop) (E : Value -> Shared -> Prop), Q (.int (g i j) s.toks) { s with toks := s.toks + 1 } -> wpAny (model X.prog X.w) X.A (f (.int i t) (.int j u)) Q E s) :
  OpR X f (rI0 fun i j => .int (g i j)) := by
 intro pins s σ H x y v u Q I rx ry h
 obtain ⟨i, j, rfl, rfl, q⟩ := h
 obtain ⟨t, rfl⟩ := rx
 obtain ⟨t', rfl⟩ := ry
 exact rule i j t t' s _ _ ⟨.int (g i j), H, I.tok _, ⟨_, rfl⟩, q⟩
theorem tM {f : Value -> Value -> Sem Value} {g : Int -> Int -> Bool}
  (rule : ∀ (i j : Int) (t u : Tok) (s : Shared) (Q : Value -> Shared -> Prop) (E : Value -> Shared -> Prop), Q (.bool (g i j)) s -> wpAny (model X.prog X.w) X.A (f (.int i t) (.int j u)) Q E s) :
  OpR X f (rI0 fun i j => .bl (g i j)) := by
 intro pins s σ H x y v u Q I rx ry h
 obtain ⟨i, j, rfl, rfl, q⟩ := h
 obtain ⟨t, rfl⟩ := rx
 obtain ⟨t', rfl⟩ := ry
 exact rule i j t t' s _ _ ⟨.bl (g i j), H, I, rfl, q⟩
def wj (i j : Int) : Prop := 0 < j /\ j < 1073741824
def wq (i j : Int) : Prop := 0 <= j /\ j <= 1000000 /\ i.natAbs < 2 ^ 64
def sR (i j : Int) : Prop := (-(2 ^ 64) < i /\ i < 2 ^ 64) \/ (-(2 ^ 64) < j /\ j < 2 ^ 64)
theorem sR.ok {i j : Int} (h : sR i j) : IntMulOk i j := by
 rcases h with ⟨h1, h2⟩ | ⟨h1, h2⟩
 ·exact .of_left (intBits_le_64 h1 h2)
 ·exact .of_right (intBits_le_64 h1 h2)
theorem bo : OpR X (binaryOp .Add) (rI0 fun i j => .int (i + j)) := vL fun _ _ _ _ _ _ _ q => add_int q
theorem rg : OpR X (binaryOp .Sub) (rI0 fun i j => .int (i - j)) := vL fun _ _ _ _ _ _ _ q => sub_int q
theorem bF : OpR X (binaryOp .Mult) (rI sR fun i j => .int (i * j)) := opI fun _ _ _ _ _ _ _ hc q => mul_int q hc.ok
theorem br : OpR X (binaryOp .FloorDiv) (rI wj fun i j => .int (i / j)) := opI fun i j _ _ _ _ _ hc q => by
 have h1 : (0 : Int) < j := hc.1
 have h2 : j < 1073741824 := hc.2
 exact floordiv_int (by omega) (by rw [Int.fdiv_eq_ediv_of_nonneg i (by omega)]; exact q) (.inl (PyProof.noPylong_small (by omega)))
theorem bm : OpR X (binaryOp .Mod) (rI (fun _ j => 0 < j) fun i j => .int (i % j)) := opI fun i j _ _ _ _ _ hc q => by
 have h1 : (0 : Int) < j := hc
 exact mod_int' (by omega) (by rw [Int.fmod_eq_emod_of_nonneg i (by omega)]; exact q)
theorem fW : OpR X (binaryOp .Pow) (rI wq fun i j => .int (i ^ j.toNat)) := opI fun _ _ _ _ _ _ _ hc q => pow_int_small hc.1 hc.2.1 hc.2.2 q
theorem unI {f : Value -> Sem Value} {g : Int -> Int}
  (rule : ∀ (i : Int) (t : Tok) (s : Shared) (Q : Value -> Shared -> Prop) (E : Value -> Shared -> Prop), Q (.int (g i) s.toks) { s with toks := s.toks + 1 } -> wpAny (model X.prog X.w) X.A (f (.int i t)) Q E s) :
  UnR X f (rU fun i => .int (g i)) := by
 intro pins s σ H x v Q I rx h
 obtain ⟨i, rfl, q⟩ := h
 obtain ⟨t, rfl⟩ := rx
 exact rule i t s _ _ ⟨.int (g i), H, I.tok _, ⟨_, rfl⟩, q⟩
theorem qS : UnR X (unaryOp .USub) (rU fun i => .int (-i)) := unI fun _ _ _ _ _ q => neg_int q
end
def uF : V -> V -> Bool
 | .non, .non => true | .non, .int _ => true | .int _, .non => true | .non, .bl _ => true | .bl _, .non => true | .non, .str _ => true | .str _, .non => true
 | .int _, .int _ => true | .bl _, .bl _ => true | .str _, .str _ => true | .byt _, .byt _ => true
 | .int _, .str _ => true | .str _, .int _ => true | .bl _, .str _ => true | .str _, .bl _ => true
 | _, _ => false
def rEq : R2 := fun x y H Q => uF x y = true /\ Q (.bl (decide (x = y))) H
def rNe : R2 := fun x y H Q => uF x y = true /\ Q (.bl (!decide (x = y))) H
theorem nR {i j : Int} : decide (V.int i = V.int j) = (i == j) := by
 rw [Bool.eq_iff_iff]
 simp
theorem pE {i j : Bool} : decide (V.bl i = V.bl j) = (i == j) := by
 rw [Bool.eq_iff_iff]
 simp
theorem mT {i j : Str} : decide (V.str i = V.str j) = (i == j) := by
 rw [Bool.eq_iff_iff]
 simp
theorem nI {i j : Array UInt8} : decide (V.byt i = V.byt j) = (i.toList == j.toList) := by
 rw [Bool.eq_iff_iff]
 cases i
 cases j
 simp
section
variable {X : Cx} {a b c : Expr} {ta tb tc : TE} {pos : Pos}
theorem aV {pins : List (Addr × Obj)} {σ : St} {H : Hp} {s : Shared} {Q : VK} {k k' : Bool} (I : Inv X pins σ H s) (q : Q (.bl k) H) (e : k = k') : EP X pins σ Q (.bool k') s := by
 subst e
 exact ⟨.bl k, H, I, rfl, q⟩
theorem bM : OpR X (compareOp .Eq) rEq := by
 intro pins s σ H x y v u Q I rx ry h
 obtain ⟨hs, q⟩ := h
 cases x with
 | non =>
  cases rx
  cases y with
  | non => cases ry; exact PySem.EqNone.eq_none_none (aV I q (by simp))
  | bl j => cases ry; exact PySem.EqNone.eq_none_bool (aV I q (by simp))
  | int j => obtain ⟨t', rfl⟩ := ry; exact PySem.EqNone.eq_none_int (aV I q (by simp))
  | str j => obtain ⟨t', rfl⟩ := ry; exact PySem.EqNone.eq_none_str (aV I q (by simp))
  | _ => exact absurd (show false = true from hs) Bool.false_ne_true
 | bl i =>
  cases rx
  cases y with
  | non => cases ry; exact PySem.EqNone.eq_bool_none (aV I q (by simp))
  | bl j => cases ry; exact eq_bool (aV I q pE)
  | str j => obtain ⟨t', rfl⟩ := ry; exact PySem.EqMixed.eq_bool_str (aV I q (by simp))
  | _ => exact absurd (show false = true from hs) Bool.false_ne_true
 | int i =>
  obtain ⟨t, rfl⟩ := rx
  cases y with
  | non => cases ry; exact PySem.EqNone.eq_int_none (aV I q (by simp))
  | int j => obtain ⟨t', rfl⟩ := ry; exact eq_int (aV I q nR)
  | str j => obtain ⟨t', rfl⟩ := ry; exact PySem.EqMixed.eq_int_str (aV I q (by simp))
  | _ => exact absurd (show false = true from hs) Bool.false_ne_true
 | str i =>
  obtain ⟨t, rfl⟩ := rx
  cases y with
  | non => cases ry; exact PySem.EqNone.eq_str_none (aV I q (by simp))
  | bl j => cases ry; exact PySem.EqMixed.eq_str_bool (aV I q (by simp))
  | int j => obtain ⟨t', rfl⟩ := ry; exact PySem.EqMixed.eq_str_int (aV I q (by simp))
  | str j => obtain ⟨t', rfl⟩ := ry; exact eq_str (aV I q mT)
  | _ => exact absurd (show false = true from hs) Bool.false_ne_true
 | byt i =>
  obtain ⟨t, rfl⟩ := rx
  cases y with
  | byt j => obtain ⟨t', rfl⟩ := ry; exact PySem.W.eq_bytes (aV I q nI)
  | _ => exact absurd (show false = true from hs) Bool.false_ne_true
 | _ => cases y <;> exact absurd (show false = true from hs) Bool.false_ne_true
theorem pM : OpR X (compareOp .NotEq) rNe := by
 intro pins s σ H x y v u Q I rx ry h
 obtain ⟨hs, q⟩ := h
 cases x with
 | non =>
  cases rx
  cases y with
  | non => cases ry; exact PySem.EqNone.ne_none_none (aV I q (by simp))
  | bl j => cases ry; exact PySem.EqNone.ne_none_bool (aV I q (by simp))
  | int j => obtain ⟨t', rfl⟩ := ry; exact PySem.EqNone.ne_none_int (aV I q (by simp))
  | str j => obtain ⟨t', rfl⟩ := ry; exact PySem.EqNone.ne_none_str (aV I q (by simp))
  | _ => exact absurd (show false = true from hs) Bool.false_ne_true
 | bl i =>
  cases rx
  cases y with
  | non => cases ry; exact PySem.EqNone.ne_bool_none (aV I q (by simp))
  | bl j => cases ry; exact ne_bool (aV I q (congrArg not pE))
  | str j => obtain ⟨t', rfl⟩ := ry; exact PySem.EqMixed.ne_bool_str (aV I q (by simp))
  | _ => exact absurd (show false = true from hs) Bool.false_ne_true
 | int i =>
  obtain ⟨t, rfl⟩ := rx
  cases y with
  | non => cases ry; exact PySem.EqNone.ne_int_none (aV I q (by simp))
  | int j => obtain ⟨t', rfl⟩ := ry; exact ne_int (aV I q (congrArg not nR))
  | str j => obtain ⟨t', rfl⟩ := ry; exact PySem.EqMixed.ne_int_str (aV I q (by simp))
  | _ => exact absurd (show false = true from hs) Bool.false_ne_true
 | str i =>
  obtain ⟨t, rfl⟩ := rx
  cases y with
  | non => cases ry; exact PySem.EqNone.ne_str_none (aV I q (by simp))
  | bl j => cases ry; exact PySem.EqMixed.ne_str_bool (aV I q (by simp))
  | int j => obtain ⟨t', rfl⟩ := ry; exact PySem.EqMixed.ne_str_int (aV I q (by simp))
  | str j => obtain ⟨t', rfl⟩ := ry; exact ne_str (aV I q (congrArg not mT))
  | _ => exact absurd (show false = true from hs) Bool.false_ne_true
 | byt i =>
  obtain ⟨t, rfl⟩ := rx
  cases y with
  | byt j => obtain ⟨t', rfl⟩ := ry; exact PySem.W.ne_bytes (aV I q (congrArg not nI))
  | _ => exact absurd (show false = true from hs) Bool.false_ne_true
 | _ => cases y <;> exact absurd (show false = true from hs) Bool.false_ne_true
theorem vI : OpR X (compareOp .Lt) (rI0 fun i j => .bl (decide (i < j))) := tM fun _ _ _ _ _ _ _ q => lt_int q
theorem vH : OpR X (compareOp .LtE) (rI0 fun i j => .bl (decide (i <= j))) := tM fun _ _ _ _ _ _ _ q => le_int q
theorem ia : OpR X (compareOp .Gt) (rI0 fun i j => .bl (decide (j < i))) := tM fun _ _ _ _ _ _ _ q => gt_int q
theorem aQ (b : Expr) {op : CmpOp} (h : op ≠ .In := by decide) (h2 : op ≠ .NotIn := by decide) : behindInMarks op b = false := by
 have e1 : (op == CmpOp.In) = false := by cases op <;> first | rfl | exact absurd rfl h
 have e2 : (op == CmpOp.NotIn) = false := by cases op <;> first | rfl | exact absurd rfl h2
 cases b <;> simp [behindInMarks, e1, e2]
theorem fu {op : CmpOp} {r : R2} (ho : OpR X (compareOp op) r) (ha : PE X a ta) (hb : PE X b tb) (hm : behindInMarks op b = false) : PE X (.Compare a [op] [b] pos) (tOp r ta tb) := by
 intro pins s σ H Q I h
 exact wpAny_Compare1 (uL ha hb I h fun v u s2 x y H2 I2 rx ry q => ho pins s2 σ H2 x y v u Q I2 rx ry q) hm
def vU (t : TE) : TT := fun σ H Q => t σ H fun x H' => ∃ k, x = .bl k /\ Q k H'
theorem aI {op : CmpOp} {r : R2} (ho : OpR X (compareOp op) r) (ha : PE X a ta) (hb : PE X b tb) (hm : behindInMarks op b = false) : PT X (.Compare a [op] [b] pos) (vU (tOp r ta tb)) := by
 intro pins s σ H Q I h
 refine wpAny_isTrue_Compare1 (thn (ha pins s σ H _ I h) fun v s1 ⟨x, H1, I1, r1, q1⟩ => thn (hb pins s1 σ H1 _ I1 q1) fun u s2 ⟨y, H2, I2, r2, q2⟩ =>
  thn (ho pins s2 σ H2 x y v u _ I2 r1 r2 q2) fun c s3 ⟨z, H3, I3, r3, k, e, q3⟩ => ?_) hm
 subst e
 cases r3
 exact wpAny_truthy_bool ⟨H3, I3, q3⟩
def rO (K : PySem.W.Frag) (x : V) (H : Hp) (k : Bool) : Prop :=
 match x with
 | .non => k = false
 | .bl b => k = b
 | .int i => k = (i != 0)
 | .str y => y.length <= sizeLine /\ k = ((y.length : Int) != 0)
 | .byt y => y.size <= sizeLine /\ k = ((y.size : Int) != 0)
 | .ref p => (∃ xs, SqL K H p xs /\ k = !xs.isEmpty) \/ (∃ xs, SqT K H p xs /\ k = !xs.isEmpty) \/ ∃ kvs, H p = some (.dK kvs) /\ k = !kvs.isEmpty
 | _ => False
theorem lP {κ : Type} {kvs : List (κ × V)} {vs : List (κ × Value)} (r : KV kvs vs) : (!vs.isEmpty) = !kvs.isEmpty := by
 cases r <;> rfl
theorem ic {xs : List V} {its : List Value} (r : aF xs its) : (!its.toArray.isEmpty) = !xs.isEmpty := by
 cases r <;> simp
theorem gN : (sizeLine : Nat) < 2 ^ 63 := by rw [sizeLine_eq]; decide
theorem uv : vY X (fun x H Q => ∃ k, rO X.K x H k /\ Q k H) := by
 intro pins s σ H x v Q I rx h
 obtain ⟨k, e, q⟩ := h
 have hl := gN
 have hs : sizeLine = 16777216 := sizeLine_eq
 cases x with
 | non =>
  cases rx
  have e' : k = false := e
  subst e'
  exact truthy_none ⟨H, I, q⟩
 | bl b =>
  cases rx
  have e' : k = b := e
  subst e'
  exact wpAny_truthy_bool ⟨H, I, q⟩
 | int i =>
  obtain ⟨t, rfl⟩ := rx
  have e' : k = (i != 0) := e
  subst e'
  exact PySem.P.truthy_int ⟨H, I, q⟩
 | str y =>
  obtain ⟨t, rfl⟩ := rx
  obtain ⟨hy, e'⟩ : y.length <= sizeLine /\ k = ((y.length : Int) != 0) := e
  subst e'
  exact PySem.P.truthy_str (by omega) ⟨H, I.tok _, q⟩
 | byt y =>
  obtain ⟨t, rfl⟩ := rx
  obtain ⟨hy, e'⟩ : y.size <= sizeLine /\ k = ((y.size : Int) != 0) := e
  subst e'
  exact PySem.W.truthy_bytes (by omega) ⟨H, I.tok _, q⟩
 | ref p =>
  cases rx
  have e' : (∃ xs, SqL X.K H p xs /\ k = !xs.isEmpty) \/ (∃ xs, SqT X.K H p xs /\ k = !xs.isEmpty) \/ ∃ kvs, H p = some (.dK kvs) /\ k = !kvs.isEmpty := e
  rcases e' with ⟨xs, hx, e'⟩ | ⟨xs, hx, e'⟩ | ⟨kvs, hx, e'⟩
  ·subst e'
   obtain ⟨its, r, pl, hz⟩ := I.list hx
   have hlen := r.length
   exact wpAny_truthy_list pl.isList (by simp only [List.size_toArray]; omega) ⟨H, I.tok _, by rw [ic r]; exact q⟩
  ·subst e'
   obtain ⟨its, r, pl, hz⟩ := I.tuple hx
   have hlen := r.length
   exact truthy_tuple pl (by simp only [List.size_toArray]; omega) ⟨H, I.tok _, by rw [ic r]; exact q⟩
  ·subst e'
   obtain ⟨hz, hS, vs, r, m⟩ : kvs.length <= sizeLine /\ (p == sysModules) = false /\ ∃ vs, KV kvs vs /\ s.heap.DictOf (aA X.prog X.w) p vs := I.hok p _ hx
   have hlen : kvs.length = vs.length := Paired.length r
   exact wpAny_truthy_dict hS m (by omega) ⟨H, I.tok _, by rw [lP r]; exact q⟩
 | _ => exact (show False from e).elim
theorem rc (ha : PE X a ta) (he : ∀ whole, isTrue a X.env whole = (do let v <- whole; standAt a.pos; holding [v] (truthy v))) :
  PT X a (fun σ H Q => ta σ H fun x H' => ∃ k, rO X.K x H' k /\ Q k H') := by
 intro pins s σ H Q I h
 exact isTrue_plain (thn (ha pins s σ H _ I h) fun v s1 ⟨x, H1, I1, r1, q1⟩ => uv pins s1 σ H1 x v Q I1 r1 q1) (he _)
theorem cT {x : V} {us : List Value} (r : aF [x] us) : ∃ u, us = [u] /\ aR x u := by
 cases r with
 | cons r1 r2 => cases r2; exact ⟨_, rfl, r1⟩
theorem tJ {x y : V} {us : List Value} (r : aF [x, y] us) : ∃ u w', us = [u, w'] /\ aR x u /\ aR y w' := by
 cases r with
 | cons r1 r2 =>
  cases r2 with
  | cons r3 r4 => cases r4; exact ⟨_, _, rfl, r1, r3⟩
theorem oV : cA X (.type "int") (fun xs H Q => (∃ i, xs = [.int i] /\ Q (.int i) H) \/ ∃ k, xs = [.bl k] /\ Q (.int (if k then 1 else 0)) H) := by
 intro pins s σ H xs us Q I r h
 rcases h with ⟨i, rfl, q⟩ | ⟨k, rfl, q⟩
 ·obtain ⟨u, rfl, t, rfl⟩ := cT r
  exact call_int_int ⟨.int i, H, I, ⟨_, rfl⟩, q⟩
 ·obtain ⟨u, rfl, r1⟩ := cT r
  cases r1
  exact call_int_bool ⟨.int (if k then 1 else 0), H, I.tok _, ⟨_, rfl⟩, q⟩
end
structure uQ (h : Heap) (x dx C : Addr) (mA : Str -> Option Value) : Prop where
 obj : h.get? x = some (PySem.W.instObj C dx)
 ns : h.Ns1 dx mA
 ne : dx ≠ x
theorem om {h : Heap} {dx : Addr} {mA : Str -> Option Value} (n : h.Ns1 dx mA) : ∃ od, h.get? dx = some od /\ ∀ name, PySem.W.lookIn name od = some (mA name) := by
 obtain ⟨o, es, ep, ho, hd, hk, _, hm⟩ := n
 refine ⟨o, ho, fun name => ?_⟩
 have e := hm name
 unfold nsFind findBy at e
 rw [<- Array.find?_toList] at e
 unfold PySem.W.lookIn
 rw [hd]
 dsimp only
 split
 ·rename_i y q
  rw [q] at e
  exact congrArg some e
 ·rename_i q
  rw [q] at e
  have a : es.toList.any (·.refKey) = false := by
   rw [List.any_eq_false]
   intro y hy
   obtain ⟨z, t, hkey⟩ := hk y (Array.mem_toList_iff.mp hy)
   simp [DictEntry.refKey, hkey]
  have a' : ¬ es.toList.any (·.refKey) = true := by rw [a]; exact Bool.false_ne_true
  rw [if_neg a']
  exact congrArg some e
theorem uQ.look {h : Heap} {x dx C : Addr} {mA : Str -> Option Value} (I : uQ h x dx C mA) : ∃ od, PySem.W.InstAt h x (PySem.W.instObj C dx) C (some od) /\ ∀ name, PySem.W.lookIn name od = some (mA name) :=
 let ⟨od, ho, hl⟩ := om I.ns
 ⟨od, ⟨I.obj, rfl, rfl, ho⟩, hl⟩
section
variable {prog : Program} {w : World} {A : Around} {E : Value -> Shared -> Prop} {s : Shared} {K : PySem.W.Frag} {x dx C f : Addr} {mA : Str -> Option Value} {name : Str} {v : Value}
end
theorem fz.some_of {v : V} {o : Option Value} (r : fz (some v) o) : ∃ u, o = some u /\ aR v u := by
 cases o with
 | none => exact (show False from r).elim
 | some u => exact ⟨u, rfl, r⟩
section
variable {P : Program} {w : World} {H H' : Hp} {h h' : Heap} {a C dx : Addr} {fs fs' : List (Str × V)}
theorem sr (hok : HOk P w H h) (e : H a = some (.ins C dx fs)) : ∃ mA, uQ h a dx C mA /\ (∀ f, fz (fs.lookup f) (mA f)) /\ PySem.Within mA (fs.map (·.1)) /\ fs.length <= 1000 /\ H dx = some (.own a) := by
 obtain ⟨d, z, ne, ob, mA, n, r, q⟩ := (show aU P w H h a (.ins C dx fs) from hok a _ e)
 exact ⟨mA, ⟨ob, n, ne⟩, r, q, z, d⟩
end
structure Cls (K : PySem.W.Frag) (C : Addr) : Prop where
 pg : PySem.W.plainGet K C Str.empty = true
 hd : PySem.W.hasDictIn K C = true
 po : PySem.W.plainOver K C = true
 sa : PySem.W.findIn K (.ref C) "__setattr__" = some (some (.builtin "object.__setattr__"))
theorem Cls.get {K : PySem.W.Frag} {C : Addr} (c : Cls K C) (f : Str) : PySem.W.plainGet K C f = true := c.pg
section
variable {X : Cx} {pins : List (Addr × Obj)} {σ : St} {H : Hp} {s : Shared} {a C dx : Addr} {fs : List (Str × V)} {f : Str} {v : V} {A : Around} {E : Value -> Shared -> Prop}
end
section
variable {X : Cx} {o e value : Expr} {f : Str} {pos pos' tpos : Pos} {ta tv : TE}
end
section
variable {X : Cx} {pins : List (Addr × Obj)} {σ : St} {H : Hp} {s : Shared} {A : Around} {E : Value -> Shared -> Prop} {Q : Value -> Shared -> Prop} {c : Value} {b : Bool}
inductive cY (K : PySem.W.Frag) (H : Hp) : V -> Value -> Prop where
 | non : cY K H .non (.type "NoneType")
 | bl (x : Bool) : cY K H (.bl x) (.type "bool")
 | int (i : Int) : cY K H (.int i) (.type "int")
 | str (x : Str) : cY K H (.str x) (.type "str")
 | flt (x : UInt64) : cY K H (.flt x) (.type "float")
 | lst {a : Addr} {xs : List V} (e : H a = some (.lst xs)) : cY K H (.ref a) (.type "list")
 | frz {a : Addr} {o : Obj} {xs : List V} (e : H a = some (.frz o (.lst xs))) : cY K H (.ref a) (.type "list")
 | tup {a : Addr} {xs : List V} (e : H a = some (.tup xs)) : cY K H (.ref a) (.type "tuple")
 | dK {a : Addr} {kvs : List (Key × V)} (e : H a = some (.dK kvs)) : cY K H (.ref a) (.type "dict")
 | dT {a : Addr} {kvs : List (List Key × V)} (e : H a = some (.dT kvs)) : cY K H (.ref a) (.type "dict")
 | ins {a C dx : Addr} {fs : List (Str × V)} (e : H a = some (.ins C dx fs)) (cl : Cls K C) (ha : PySem.W.findIn K (.ref C) "__class__" = some (some (.builtin "object.__class__")))
   (hn : PySem.W.specialIn K (.builtin "object.__class__") "__get__" = some (some (.builtin "getset_descriptor.__get__"))) (htk : PySem.W.takesIn K (.builtin "object.__class__") = some true)
   (hm : PySem.W.mroIn K C (.type "object") = some true) : cY K H (.ref a) (.ref C)
theorem oq {x : V} {u t : Value} (I : Inv X pins σ H s) (rx : aR x u) (ty : cY X.K H x t) (e : PySem.W.kitOne X.K t c = some b) (h : ∀ tk, Q (.bool b) { s with toks := tk }) :
  wpAny (model X.prog X.w) A (call (.builtin "isinstance") [u, c]) Q E s := by
 cases ty with
 | non => cases (show u = Value.none from rx); exact PySem.W.kia_one PySem.W.kitx_none I.kIn True.intro e (fun z => nomatch z) h
 | bl y => cases (show u = Value.bool y from rx); exact PySem.W.kia_one PySem.W.kitx_bool I.kIn True.intro e (fun z => nomatch z) h
 | int i => obtain ⟨t, q⟩ := (show ∃ t, u = Value.int i t from rx); cases q; exact PySem.W.kia_one PySem.W.kitx_int I.kIn True.intro e (fun z => nomatch z) h
 | str y => obtain ⟨t, q⟩ := (show ∃ t, u = Value.str y t from rx); cases q; exact PySem.W.kia_one PySem.W.kitx_str I.kIn True.intro e (fun z => nomatch z) h
 | flt y => obtain ⟨t, q⟩ := (show ∃ t, u = Value.float y t from rx); cases q; exact PySem.W.kia_one PySem.W.kitx_float I.kIn True.intro e (fun z => nomatch z) h
 | @lst a xs ea =>
  cases (show u = Value.ref a from rx)
  obtain ⟨_, _, n, _, h1⟩ := (show aU X.prog X.w H s.heap a (.lst xs) from I.hok a _ ea)
  exact PySem.W.kia_one PySem.W.kitx_list I.kIn ⟨_, h1, rfl⟩ e (fun z => nomatch z) h
 | @frz a ob xs ea =>
  cases (show u = Value.ref a from rx)
  obtain ⟨_, _, _, n, _, h1⟩ := (show aU X.prog X.w H s.heap a (.frz ob (.lst xs)) from I.hok a _ ea)
  exact PySem.W.kia_one PySem.W.kitx_list I.kIn ⟨_, h1, rfl⟩ e (fun z => nomatch z) h
 | @tup a xs ea =>
  cases (show u = Value.ref a from rx)
  obtain ⟨_, _, _, p⟩ := (show aU X.prog X.w H s.heap a (.tup xs) from I.hok a _ ea)
  obtain ⟨⟨o, h1, h2, _⟩, _⟩ := p
  exact PySem.W.kia_one PySem.W.kitx_tuple I.kIn ⟨o, h1, h2⟩ e (fun z => nomatch z) h
 | @dK a kvs ea =>
  cases (show u = Value.ref a from rx)
  obtain ⟨_, _, vs, _, p⟩ := (show aU X.prog X.w H s.heap a (.dK kvs) from I.hok a _ ea)
  obtain ⟨o, es, ep, h1, h2, _⟩ := p
  exact PySem.W.kia_one PySem.W.kitx_dict I.kIn ⟨o, h1, h2.1⟩ e (fun z => nomatch z) h
 | @dT a kvs ea =>
  cases (show u = Value.ref a from rx)
  obtain ⟨_, _, xs, _, o, es, ep, h1, h2, _⟩ := (show aU X.prog X.w H s.heap a (.dT kvs) from I.hok a _ ea)
  exact PySem.W.kia_one PySem.W.kitx_dict I.kIn ⟨o, h1, h2.1⟩ e (fun z => nomatch z) h
 | @ins a C dx fs ea cl ha hn htk hm =>
  cases (show u = Value.ref a from rx)
  obtain ⟨mA, O, _⟩ := sr I.hok ea
  obtain ⟨od, J, _⟩ := O.look
  exact PySem.W.kia_one (PySem.W.kitx_own (cl.get _) cl.hd ha hn htk hm) I.kIn J e (fun z => nomatch z) h
end
structure dj (k : Nat) (A : Around) : Prop where
 hd : A.handled = none
 dp : A.depth + 3 * k + 5 < recursionLimit
 un : A.units + 16 * k + 200 < cLine
theorem dj.mono {j k : Nat} {A : Around} (r : dj k A) (h : j <= k) : dj j A := ⟨r.hd, by have := r.dp; omega, by have := r.un; omega⟩
theorem dj.deeper {k : Nat} {A : Around} (r : dj (k + 1) A) (env : Env) : dj k (A.deeper env) :=
 ⟨r.hd, by have := r.dp; show A.depth + 1 + 3 * k + 5 < _; omega, by have := r.un; show A.units + 3 + 16 * k + 200 < _; omega⟩
theorem dj.depth {k : Nat} {A : Around} (r : dj k A) : A.depth < recursionLimit := by have := r.dp; omega
theorem dj.units {k : Nat} {A : Around} (r : dj k A) : A.units + 64 < cLine := by have := r.un; omega
def wC : TA := fun _ H Q => Q [] H
def vq (ta : TE) (tr : TA) : TA := fun σ H Q => ta σ H fun x H1 => tr σ H1 fun xs H2 => Q (x :: xs) H2
section
variable {X : Cx} {e : Expr} {es : List Expr} {te : TE} {t : TA} {pos : Pos}
theorem af : PA X [] wC := fun _ _ _ _ H Q I h => Calls.spliced_nil ⟨[], H, I, .nil, h⟩
theorem aa (ha : PE X e te) (hr : PA X es t) (hs : starEach (e :: es) X.env = (false, eval e X.env) :: starEach es X.env := by rfl) : PA X (e :: es) (vq te t) := by
 intro pos pins s σ H Q I h
 rw [hs]
 show wpAny _ _ (spliced ((false, eval e X.env) :: backTo pos (starEach es X.env))) _ _ s
 refine Calls.spliced_cons (thn (ha pins s σ H _ I h) fun u s1 ⟨x, H1, I1, r1, q1⟩ => ?_)
 exact thn (hr pos pins s1 σ H1 _ I1 q1) fun us s2 ⟨xs, H2, I2, r2, q2⟩ => ⟨x :: xs, H2, I2, .cons r1 r2, q2⟩
def wE (t : TA) : TE := fun σ H Q => t σ H fun xs H1 => xs.length <= sizeLine /\ ∀ p, H1 p = none -> Q (.ref p) (upd H1 p (.tup xs))
def wo (t : TA) : TE := fun σ H Q => t σ H fun xs H1 => xs.length <= sizeLine /\ ∀ p, H1 p = none -> Q (.ref p) (upd H1 p (.lst xs))
theorem ba {x1} (h : PA X es t) : PE X (.Tuple es x1 pos) (wE t) := by
 intro pins s σ H Q I hq
 refine wpAny_Tuple_spliced (thn (h pos pins s σ H _ I hq) fun us s1 ⟨xs, H1, I1, r, z, q⟩ => ⟨by rw [<- r.length]; exact z, ?_⟩)
 have hf : H1 s1.heap.objs.size = none := I1.hok.fresh (Nat.le_refl _)
 refine ⟨.ref s1.heap.objs.size, upd H1 s1.heap.objs.size (.tup xs), I1.laid (t' := s1.toks) (fun b u e => Heap.get?_push_of_some _ e) (Nat.le_refl _) ?_, rfl, q _ hf⟩
 exact ⟨z, us, r, ⟨_, Heap.get?_push_size _ rfl, rfl, _, rfl⟩, NoD.new _ rfl⟩
theorem cL (h : PA X es t) : PE X (.List es pos) (wo t) := by
 intro pins s σ H Q I hq
 refine wpAny_List_spliced (thn (h pos pins s σ H _ I hq) fun us s1 ⟨xs, H1, I1, r, z, q⟩ => ⟨by rw [<- r.length]; exact z, ?_⟩)
 have hf : H1 s1.heap.objs.size = none := I1.hok.fresh (Nat.le_refl _)
 refine ⟨.ref s1.heap.objs.size, upd H1 s1.heap.objs.size (.lst xs), I1.laid (t' := s1.toks) (fun b u e => Heap.get?_push_of_some _ e) (Nat.le_refl _) ?_, rfl, q _ hf⟩
 exact ⟨z, us, 0, r, Heap.get?_push_size _ rfl⟩
end
abbrev Sp := List V -> Hp -> VK -> XK -> Prop
abbrev CXT := List Env -> Hp -> Shared -> XK -> Value -> Shared -> Prop
structure sU (P : Program) (w : World) (K : PySem.W.Frag) (mg : Str -> Option Value) (base : Heap) (A : Around) (outer : List Env) (s : Shared) (H : Hp) : Prop where
 frames : A.frames = some outer
 mod : Mod K mg base
 bs : ∀ b o, base.get? b = some o -> s.heap.get? b = some o /\ H b = none
 bsz : base.objs.size <= s.heap.objs.size
 funs : s.heap.FunFrames base outer
 frf : ∀ b ∈ frs outer, H b = none
 hok : HOk P w H s.heap
 bare : AllBare s.gens
def CE (outer : List Env) (P : Program) (w : World) (H : Hp) (s : Shared) (Q : VK) (u : Value) (s' : Shared) : Prop :=
 ∃ v H', s'.os = s.os /\ AllBare s'.gens /\ Un (frs outer) [] H H' s.heap s'.heap /\ HOk P w H' s'.heap /\ aR v u /\ Q v H'
def CR (CX : CXT) (outer : List Env) (P : Program) (w : World) (H : Hp) (s : Shared) (Q : VK) (E : XK) (r : Result) (s' : Shared) : Prop :=
 match r with
 | .ok (.ret u) => CE outer P w H s Q u s'
 | .ok _ => False
 | .error e => CX outer H s E e s'
structure bg (P : Program) (w : World) (K : PySem.W.Frag) (mg : Str -> Option Value) (base : Heap) (CX : CXT) (k : Nat) (f : Addr) (fd : FuncData) (ps : List Str) (sp : Sp) : Prop where
 len : ∀ vs H Q E, sp vs H Q E -> vs.length = ps.length
 run : ∀ (A : Around) (outer : List Env) (s : Shared) (H : Hp) (args : Args) (us : List Value) (vs : List V) (Q : VK) (E : XK), dj k A -> sU P w K mg base A outer s H -> BindsTo s fd args (ps.zip us) -> aF vs us -> sp vs H Q E ->
  codeAny (model P w) A (.call (.ref f) args) (CR CX outer P w H s Q E) s
theorem bg.mono {P : Program} {w : World} {K : PySem.W.Frag} {mg : Str -> Option Value} {base : Heap} {CX : CXT} {j k : Nat} {f : Addr} {fd : FuncData} {ps : List Str} {sp : Sp} (F : bg P w K mg base CX j f fd ps sp) (h : j <= k) :
  bg P w K mg base CX k f fd ps sp := ⟨F.len, fun A outer s H args us vs Q E hr => F.run A outer s H args us vs Q E (hr.mono h)⟩
section
variable {X : Cx} {pins : List (Addr × Obj)} {σ : St} {H : Hp} {s s' : Shared}
theorem Inv.env0 (I : Inv X pins σ H s) : sU X.prog X.w X.K X.mg X.base X.A X.stack s H :=
 ⟨I.ok.frames, I.ok.mod, I.bs, Nat.le_trans I.ok.bsz I.sz, I.stack, I.stkFree, I.hok, I.bare⟩
theorem Inv.after {Q : VK} {u : Value} (I : Inv X pins σ H s) (h : CE X.stack X.prog X.w H s Q u s') : EP X pins σ Q u s' := by
 obtain ⟨v, H', os, bare, un, hok, r, q⟩ := h
 obtain ⟨hh, g, d, t, os'⟩ := s'
 obtain rfl : os' = s.os := os
 exact ⟨v, H', I.call (h' := hh) (g' := g) (d' := d) (t' := t) (ch := []) un hok bare (fun b z => absurd z (by simp)), r, q⟩
end
def tF (sp : Sp) (dvs : List V) (E : XK) (t : TA) : TE := fun σ H Q => t σ H fun vs H1 => sp (vs ++ dvs) H1 Q E
def gu (K : PySem.W.Frag) (fd : FuncData) (ps : List Str) (ds : List Value) : Prop :=
 ∀ (s : Shared) (us : List Value), K.In s.heap -> (us ++ ds).length = ps.length -> BindsTo s fd ⟨us, []⟩ (ps.zip (us ++ ds))
theorem gu.all {K : PySem.W.Frag} {fd : FuncData} {ps : List Str} (h : ∀ us : List Value, us.length = ps.length -> bindArgs fd ⟨us, []⟩ = pure (ps.zip us)) : gu K fd ps [] := fun s us _ hl => by
 rw [List.append_nil] at hl ⊢
 exact .of_eq (h us hl)
def mz (CX : CXT) (X : Cx) (E : XK) : Prop := ∀ (pins : List (Addr × Obj)) (σ : St) (H : Hp) (s : Shared) (e : Value) (s' : Shared), Inv X pins σ H s -> CX X.stack H s E e s' -> X.xe e s'
section
variable {X : Cx} {CX : CXT} {k : Nat} {f C : Addr} {fd : FuncData} {ps : List Str} {sp : Sp} {dvs : List V} {ds : List Value} {E : XK} {x m : Str} {p pos apos : Pos} {e o : Expr} {es : List Expr} {ta : TE} {t : TA}
theorem pY {pins : List (Addr × Obj)} {σ : St} {H : Hp} {s : Shared} {Q : VK} {us : List Value} {vs : List V} (F : bg X.prog X.w X.K X.mg X.base CX k f fd ps sp) (hr : dj k X.A) (hb : gu X.K fd ps ds) (hd : aF dvs ds) (hx : mz CX X E)
  (I : Inv X pins σ H s) (r : aF vs us) (h : sp (vs ++ dvs) H Q E) : wpAny (model X.prog X.w) X.A (call (.ref f) us) (EP X pins σ Q) X.xe s := by
 have r2 : aF (vs ++ dvs) (us ++ ds) := r.append hd
 have hl : (us ++ ds).length = ps.length := by rw [<- r2.length]; exact F.len _ _ _ _ h
 refine wpAny_call (codeAny_mono (F.run X.A X.stack s H ⟨us, []⟩ (us ++ ds) (vs ++ dvs) Q E hr I.env0 (hb s us I.kIn hl) r2 h) fun r s' hq => ?_)
 cases r with
 | error e => exact hx pins σ H s e s' I hq
 | ok fl =>
  cases fl with
  | ret u => exact I.after hq
  | next => exact False.elim hq
  | brk => exact False.elim hq
  | cont => exact False.elim hq
theorem sA (F : bg X.prog X.w X.K X.mg X.base CX k f fd ps sp) (hr : dj k X.A) (hg : Gl X x) (hm : X.mg x = some (.ref f)) (hk : PySem.W.keepIn X.K (.ref f) = true) (hb : gu X.K fd ps ds) (hd : aF dvs ds) (hx : mz CX X E)
  (ha : PA X (e :: es) t) (hdb : (x == ("__debug__" : Str)) = false := by decide) (he : starEach (e :: es) X.env = (false, eval e X.env) :: starEach es X.env := by rfl) (hpl : (backTo pos (starEach es X.env)).any (·.1) = false := by rfl) :
  PE X (.Call (.Name x p) (e :: es) [] pos) (tF sp dvs E t) := by
 intro pins s σ H Q I h
 refine wpAny_Call_Name_kw (nZ I hg hm ?_ hdb)
 refine PySem.W.callWith_K (h₀ := X.base) I.ok.mod.kin hk (thn (ha pos pins s σ H _ I h) fun us s1 ⟨vs, H1, I1, r, q⟩ => ⟨I1.kIn, ?_⟩) he hpl
 exact pY F hr hb hd hx I1 r q
end
section
variable {X : Cx} {CX : CXT} {k : Nat} {f C : Addr} {fd : FuncData} {ps ks : List Str} {sp : Sp} {E : XK} {x m : Str} {p pos apos kpos : Pos} {e o : Expr} {es : List Expr} {kws : List Keyword} {te ta : TE} {t tk : TA} {nm : Option Str}
variable {g : List Value -> List Value -> List Value} {gV : List V -> List V -> List V}
end
structure aP (N P : List Str) (sc : Scope) : Prop where
 kind : sc.kind = .function
 co : sc.isCoroutine = false
 gen : sc.isGenerator = false
 nd : N.Nodup
 pre : N.take P.length = P
 par : ∀ x ∈ P, sc.names.lookup x = some .local \/ sc.names.lookup x = some .cell
 nofree : ∀ y ∈ sc.names, y.2 ≠ .free
theorem iV {kindOf : Str -> Option NameKind} {x : Str} : ∀ {binds : List (Str × Value)} {m : Str -> Option Value}, (∀ v, (x, v) ∉ binds) -> bindL kindOf binds m x = m x
 | [], _, _ => rfl
 | (n, v) :: r, m, h => by
  unfold bindL
  rw [iV fun w hw => h w (List.mem_cons_of_mem _ hw)]
  split
  ·have : x ≠ n := by rintro rfl; exact h v List.mem_cons_self
   simp [this]
  ·rfl
theorem iT {kindOf : Str -> Option NameKind} {x : Str} : ∀ {binds : List (Str × Value)} {m : Str -> Option Value}, (∀ v, (x, v) ∉ binds) -> bindC kindOf binds m x = m x
 | [], _, _ => rfl
 | (n, v) :: r, m, h => by
  unfold bindC
  rw [iT fun w hw => h w (List.mem_cons_of_mem _ hw)]
  split
  ·rfl
  ·have : x ≠ n := by rintro rfl; exact h v List.mem_cons_self
   simp [this]
theorem iI {kindOf : Str -> Option NameKind} {x : Str} {v : Value} : ∀ {P : List Str} {vs : List Value} {i : Nat} {m : Str -> Option Value}, P.Nodup -> P[i]? = some x -> vs[i]? = some v -> kindOf x = some .local ->
  bindL kindOf (P.zip vs) m x = some v
 | [], _, _, _, _, h, _, _ => by simp at h
 | _ :: _, [], _, _, _, _, h, _ => by simp at h
 | p :: P, w :: vs, 0, m, nd, h1, h2, hk => by
  simp at h1 h2; subst h1; subst h2
  show bindL kindOf ((p, w) :: P.zip vs) m p = _
  unfold bindL
  rw [iV fun v hv => (List.nodup_cons.mp nd).1 (List.of_mem_zip hv).1, if_pos hk]
  simp
 | p :: P, w :: vs, i + 1, m, nd, h1, h2, hk => by
  show bindL kindOf ((p, w) :: P.zip vs) m x = _
  unfold bindL
  exact iI (i := i) (List.nodup_cons.mp nd).2 (by simpa using h1) (by simpa using h2) hk
theorem iN {kindOf : Str -> Option NameKind} {x : Str} {v : Value} : ∀ {P : List Str} {vs : List Value} {i : Nat} {m : Str -> Option Value}, P.Nodup -> P[i]? = some x -> vs[i]? = some v -> kindOf x ≠ some .local ->
  bindC kindOf (P.zip vs) m x = some v
 | [], _, _, _, _, h, _, _ => by simp at h
 | _ :: _, [], _, _, _, _, h, _ => by simp at h
 | p :: P, w :: vs, 0, m, nd, h1, h2, hk => by
  simp at h1 h2; subst h1; subst h2
  show bindC kindOf ((p, w) :: P.zip vs) m p = _
  unfold bindC
  rw [iT fun v hv => (List.nodup_cons.mp nd).1 (List.of_mem_zip hv).1, if_neg hk]
  simp
 | p :: P, w :: vs, i + 1, m, nd, h1, h2, hk => by
  show bindC kindOf ((p, w) :: P.zip vs) m x = _
  unfold bindC
  exact iN (i := i) (List.nodup_cons.mp nd).2 (by simpa using h1) (by simpa using h2) hk
def gv (N : List Str) (vs : List V) : St := vs.map some ++ List.replicate (N.length - vs.length) none
def oG (CX : CXT) (P : Program) (w : World) (K : PySem.W.Frag) (mg : Str -> Option Value) (base : Heap) (N : List Str) (qual : Str) (scope : Scope) (f : Addr) (cd : Value) (A : Around) (outer : List Env) (s : Shared) (H : Hp) (E : XK) : Cx where
 prog := P
 w := w
 K := K
 mg := mg
 base := base
 A := A.deeper (envOfC qual scope s.heap.objs.size f cd)
 N := N
 s₀ := s
 H₀ := H
 env := envOfC qual scope s.heap.objs.size f cd
 outer := outer
 stack := envOfC qual scope s.heap.objs.size f cd :: outer
 ex := []
 calm := true
 fn := fun _ => true
 pn := []
 xe := fun e s' => wpAny (model P w) (A.deeper (envOfC qual scope s.heap.objs.size f cd)) (leaving (envOfC qual scope s.heap.objs.size f cd) e) (fun _ s'' => CX outer H s E e s'') (fun e' s'' => CX outer H s E e' s'') s'
theorem lc {sc : Scope} {n : Nat} {x : Str} (h : sc.names.lookup x = some .cell) : ∃ c, (cellsFrom n sc.names []).lookup x = some c := by
 have q := PySem.W.cellsFrom_some sc.names n [] (.inl h)
 exact Option.isSome_iff_exists.mp q
theorem oZ {CX : CXT} {P : Program} {w : World} {K : PySem.W.Frag} {mg : Str -> Option Value} {base : Heap} {N ps : List Str} {qual : Str} {scope : Scope} {f : Addr} {cd : Value} {A : Around} {outer : List Env} {s s1 : Shared} {H : Hp} {E : XK} {us : List Value} {vs : List V}
  (S : aP N ps scope) (hd : A.handled = none) (e0 : sU P w K mg base A outer s H) (hl : vs.length = ps.length) (r : aF vs us)
  (x : InCallC s s.heap.objs.size (bindL (envOfC qual scope s.heap.objs.size f cd).kindOf (ps.zip us) fun _ => none) (cellsFrom (s.heap.objs.size + 1) scope.names []) (bindC (envOfC qual scope s.heap.objs.size f cd).kindOf (ps.zip us) fun _ => none) s1) :
  Inv (oG CX P w K mg base N qual scope f cd A outer s H E) [] (gv N vs) H s1 := by
 have hpl : ps.length <= N.length := by have := congrArg List.length S.pre; rw [List.length_take] at this; omega
 obtain ⟨h1, tk, rfl, hk⟩ := x.done
 have noA : ∀ b : Addr, b ∉ (oG CX P w K mg base N qual scope f cd A outer s H E).ex := fun b z => absurd (show b ∈ ([] : List Addr) from z) (by simp)
 refine ⟨⟨e0.mod, S.kind, rfl, rfl, Nat.le_refl _, fun y z c h1 h2 => ?_, fun y hy => ?_, fun y c _ h => ?_, fun _ => hd, Around.frames_deeper e0.frames, .inr ⟨rfl, rfl⟩, fun b z => absurd z (noA b), e0.bs, e0.bsz, fun b _ _ => noA b, fun b z => absurd z (noA b), e0.funs, e0.frf⟩,
  rfl, e0.bare, Un.kept hk, ⟨_, x.toInCall.ns, fun i y v h1 h2 h3 => ?_⟩, fun y c h => ⟨_, x.cell y c h⟩, e0.hok.fresh (Nat.le_refl _), fun y c h => ?_, fun p hp => absurd (show p ∈ ([] : List (Addr × Obj)) from hp) (by simp), e0.hok.kept hk, ?_⟩
 ·exact name_of_addr x.apart (PySem.mem_of_lookup h1) (PySem.mem_of_lookup h2)
 ·have hy : scope.names.lookup y = some .cell \/ scope.names.lookup y = some .free := hy
  rcases hy with hy | hy
  ·exact lc hy
  ·exact absurd rfl (S.nofree _ (PySem.mem_of_lookup hy))
 ·exact Nat.le_of_lt (x.above y c (PySem.mem_of_lookup h))
 ·have hi : i < vs.length := by
   unfold gv at h2
   by_cases hi : i < vs.length
   ·exact hi
   ·rw [List.getElem?_append_right (by simpa using hi)] at h2
    rw [List.getElem?_replicate] at h2
    split at h2 <;> cases h2
  have ha : vs[i]? = some v := by
   unfold gv at h2
   rw [List.getElem?_append_left (by simpa using hi), List.getElem?_map] at h2
   cases e : vs[i]? with
   | none => rw [e] at h2; cases h2
   | some a => rw [e] at h2; cases h2; rfl
  obtain ⟨u, hu, rv⟩ := r.get ha
  have hp : ps[i]? = some y := by
   rw [<- S.pre, List.getElem?_take_of_lt (by omega)]; exact h1
  have ndP : ps.Nodup := by rw [<- S.pre]; exact S.nd.sublist (List.take_sublist _ _)
  refine ⟨u, rv, ?_⟩
  rcases S.par y (List.mem_of_getElem? hp) with k | k
  ·exact .inl ⟨k, iI ndP hp hu k⟩
  ·obtain ⟨c, e⟩ := lc (n := s.heap.objs.size + 1) k
   refine .inr ⟨.inl k, c, e, ?_⟩
   have q := x.cell y c e
   rw [iN ndP hp hu (by show scope.names.lookup y ≠ _; rw [k]; decide)] at q
   exact q
 ·exact e0.hok.fresh (Nat.le_of_lt (x.above y c (PySem.mem_of_lookup h)))
 ·unfold gv
  show _ = N.length
  rw [List.length_append, List.length_map, List.length_replicate]
  omega
theorem vz {CX : CXT} {P : Program} {w : World} {K : PySem.W.Frag} {mg : Str -> Option Value} {base : Heap} {k : Nat} {f : Addr} {name qual : Str} {params : Arguments} {body : List Stmt} {scope : Scope} {dV kV doc pm cdv ct oc : Value} {an od : Option Addr}
  {osl : Array (Option Value)} {N ps : List Str} {sp : Sp} (lk : K.lookup f = some ⟨oc, od, .func (PySem.W.fnOf name qual params body scope dV kV doc pm an cdv ct), osl⟩) (hcd : PySem.W.codeIn K cdv qual = true) (S : aP N ps scope)
  (len : ∀ vs H Q E, sp vs H Q E -> vs.length = ps.length)
  (hbody : ∀ (A : Around) (outer : List Env) (s : Shared) (H : Hp) (vs : List V) (Q : VK) (E : XK), dj k (A.deeper (envOfC qual scope s.heap.objs.size f cdv)) -> sp vs H Q E ->
   ∃ t, PSs (oG CX P w K mg base N qual scope f cdv A outer s H E) body t /\ t { nx := fun _ H' => Q .non H', rt := Q } (gv N vs) H) :
  bg P w K mg base CX (k + 1) f (PySem.W.fnOf name qual params body scope dV kV doc pm an cdv ct) ps sp := by
 refine ⟨len, fun A outer s H args us vs Q E hr e0 hb r hsp => ?_⟩
 have hl := len _ _ _ _ hsp
 have KX : K.In s.heap := e0.mod.kin.keeps fun b o e => (e0.bs b o e).1
 have lim : s.heap.NoLimit := e0.mod.nolimit.keeps fun b o e => (e0.bs b o e).1
 have hkind : ∀ y ∈ ps.zip us, scope.names.lookup y.1 = some .local \/ (scope.names.lookup y.1 = some .cell /\ ((cellsFrom (s.heap.objs.size + 1) scope.names []).lookup y.1).isSome = true) := fun ⟨n, v⟩ hy => by
  rcases S.par n (List.of_mem_zip hy).1 with q | q
  ·exact .inl q
  ·exact .inr ⟨q, PySem.W.cellsFrom_some _ _ _ (.inl q)⟩
 refine codeAny_call_function hr.depth (KX _ _ lk) rfl S.co S.gen rfl (PySem.W.codeRec_of KX hcd) (hb _ _ _ _ ?_)
 refine wpAny_newFunctionEnv_cells S.kind hkind fun env he s1 x => ?_
 subst he
 refine ⟨lim.keeps x.toInCall.keep, codeAny_func ?_⟩
 obtain ⟨t, ht, hq⟩ := hbody A outer s H vs Q E (hr.deeper _) hsp
 have I : Inv (oG CX P w K mg base N qual scope f cdv A outer s H E) [] (gv N vs) H s1 := oZ S hr.hd e0 hl r x
 refine wpAny_mono (ht [] s1 (gv N vs) H _ I hq) (fun fl s' hs => ?_) fun e s' hs => hs
 have fin : ∀ {σ' : St} {H' : Hp} {v : V} {u : Value}, Inv (oG CX P w K mg base N qual scope f cdv A outer s H E) [] σ' H' s' -> aR v u -> Q v H' -> CE outer P w H s Q u s' :=
  fun {σ' H' v u} J rv q => ⟨v, H', J.os, J.bare, J.base, J.hok, rv, q⟩
 cases fl with
 | ret u =>
  obtain ⟨v, σ', H', J, rv, q⟩ := hs
  exact fin J rv q
 | next =>
  obtain ⟨σ', H', J, q⟩ := hs
  exact fin (v := V.non) (u := Value.none) J rfl q
 | brk =>
  obtain ⟨_, _, _, q⟩ := hs
  exact False.elim q
 | cont =>
  obtain ⟨_, _, _, q⟩ := hs
  exact False.elim q
section
variable {X : Cx} {x : Str} {p pos : Pos} {e : Expr} {es : List Expr} {t : TA} {id T : String} {r : List V -> Hp -> VK -> Prop}
def tCB (r : List V -> Hp -> VK -> Prop) (t : TA) : TE := fun σ H Q => t σ H fun vs H1 => r vs H1 Q
theorem aT (hc : cA X (.builtin id) r) (hg : Gl X x) (hm : X.mg x = none) (hv : bootBuiltins x = some (.builtin id)) (ha : PA X (e :: es) t) (hn : x ≠ "__name__" := by decide) (hdb : (x == ("__debug__" : Str)) = false := by decide)
  (he : starEach (e :: es) X.env = (false, eval e X.env) :: starEach es X.env := by rfl) (hpl : (backTo pos (starEach es X.env)).any (·.1) = false := by rfl) : PE X (.Call (.Name x p) (e :: es) [] pos) (tCB r t) := by
 intro pins s σ H Q I h
 refine wpAny_Call_Name_kw (eB I hg hm hv ?_ hn hdb)
 exact PyProof.Rows.callWith_builtin1 (thn (ha pos pins s σ H _ I h) fun us s1 ⟨vs, H1, I1, r1, q1⟩ => hc pins s1 σ H1 vs us Q I1 r1 q1) he hpl
theorem bp (hc : cA X (.type T) r) (hg : Gl X x) (hm : X.mg x = none) (hv : bootBuiltins x = some (.type T)) (ha : PA X (e :: es) t) (hn : x ≠ "__name__" := by decide) (hdb : (x == ("__debug__" : Str)) = false := by decide)
  (he : starEach (e :: es) X.env = (false, eval e X.env) :: starEach es X.env := by rfl) (hpl : (backTo pos (starEach es X.env)).any (·.1) = false := by rfl) : PE X (.Call (.Name x p) (e :: es) [] pos) (tCB r t) := by
 intro pins s σ H Q I h
 refine wpAny_Call_Name_kw (eB I hg hm hv ?_ hn hdb)
 exact PyProof.Rows.callWith_type1 (thn (ha pos pins s σ H _ I h) fun us s1 ⟨vs, H1, I1, r1, q1⟩ => hc pins s1 σ H1 vs us Q I1 r1 q1) he hpl
end
section
variable {κ : Type} [DecidableEq κ]
def df (kvs : List (κ × V)) (k : κ) : Option V := (kvs.find? fun kv => decide (kv.1 = k)).map (·.2)
def cx (kvs : List (κ × V)) (k : κ) (v : V) : List (κ × V) :=
 if (kvs.any fun kv => decide (kv.1 = k)) = true then kvs.map (fun kv => if kv.1 = k then (kv.1, v) else kv) else kvs ++ [(k, v)]
theorem bJ {p : κ × V} {r : List (κ × V)} {k : κ} (e : p.1 = k) : df (p :: r) k = some p.2 := by simp [df, List.find?_cons, e]
theorem bE {p : κ × V} {r : List (κ × V)} {k : κ} (e : ¬ p.1 = k) : df (p :: r) k = df r k := by simp [df, List.find?_cons, e]
theorem kY (k : κ) : ∀ kvs : List (κ × V), (kvs.any fun kv => decide (kv.1 = k)) = (df kvs k).isSome
 | [] => rfl
 | p :: r => by
  rw [List.any_cons]
  by_cases e : p.1 = k
  ·simp only [bJ e, decide_eq_true e, Bool.true_or, Option.isSome_some]
  ·rw [bE e, decide_eq_false e, Bool.false_or]; exact kY k r
theorem eu (kvs : List (κ × V)) (k : κ) (v : V) : (cx kvs k v).length <= kvs.length + 1 := by
 unfold cx
 split
 ·rw [List.length_map]; omega
 ·rw [List.length_append, List.length_cons, List.length_nil]; omega
theorem fz.isSome_eq {o : Option V} {u : Option Value} (r : fz o u) : o.isSome = u.isSome := by
 cases o with
 | none => cases u with
  | none => rfl
  | some _ => exact (show False from r).elim
 | some _ => cases u with
  | none => exact (show False from r).elim
  | some _ => rfl
theorem fz.getD {o : Option V} {u : Option Value} {d : V} {d' : Value} (r : fz o u) (rd : aR d d') : aR (o.getD d) (u.getD d') := by
 cases o with
 | none => cases u with
  | none => exact rd
  | some _ => exact (show False from r).elim
 | some _ => cases u with
  | none => exact (show False from r).elim
  | some _ => exact r
theorem KV.val {kvs : List (κ × V)} {vs : List (κ × Value)} (r : KV kvs vs) (k : κ) : fz (df kvs k) (valueAt vs k) := by
 unfold KV at r
 induction r with
 | nil => exact True.intro
 | @cons p q ps qs h t ih =>
  obtain ⟨h1, h2⟩ := h
  by_cases e : p.1 = k
  ·have e' : q.1 = k := h1.symm.trans e
   have b : valueAt (q :: qs) k = some q.2 := by simp [valueAt, List.find?_cons, e']
   rw [bJ e, b]; exact h2
  ·have e' : ¬ q.1 = k := fun z => e (h1.trans z)
   have b : valueAt (q :: qs) k = valueAt qs k := by simp [valueAt, List.find?_cons, e']
   rw [bE e, b]; exact ih
theorem KV.any {kvs : List (κ × V)} {vs : List (κ × Value)} (r : KV kvs vs) (k : κ) : (kvs.any fun kv => decide (kv.1 = k)) = vs.any fun kv => decide (kv.1 = k) := by
 unfold KV at r
 induction r with
 | nil => rfl
 | cons h t ih => rw [List.any_cons, List.any_cons, ih, h.1]
theorem KV.repl {kvs : List (κ × V)} {vs : List (κ × Value)} (r : KV kvs vs) (k : κ) {y : V} {u : Value} (ry : aR y u) :
  KV (kvs.map fun kv => if kv.1 = k then (kv.1, y) else kv) (vs.map fun kv => if kv.1 = k then (kv.1, u) else kv) := by
 unfold KV at r ⊢
 induction r with
 | nil => exact .nil
 | @cons p q ps qs h t ih =>
  rw [List.map_cons, List.map_cons]
  refine .cons ?_ ih
  obtain ⟨h1, h2⟩ := h
  by_cases e : p.1 = k
  ·rw [if_pos e, if_pos (h1.symm.trans e)]; exact ⟨h1, ry⟩
  ·rw [if_neg e, if_neg (fun z => e (h1.trans z))]; exact ⟨h1, h2⟩
theorem KV.put {kvs : List (κ × V)} {vs : List (κ × Value)} (r : KV kvs vs) (k : κ) {y : V} {u : Value} (ry : aR y u) : KV (cx kvs k y) (stored vs k u) := by
 unfold cx stored
 rw [r.any k]
 by_cases e : (vs.any fun kv => decide (kv.1 = k)) = true
 ·rw [if_pos e, if_pos e]; exact r.repl k ry
 ·rw [if_neg e, if_neg e]; exact Paired.snoc r ⟨rfl, ry⟩
theorem KV.keys {kvs : List (κ × V)} {vs : List (κ × Value)} (r : KV kvs vs) : kvs.map (·.1) = vs.map (·.1) := by
 unfold KV at r
 induction r with
 | nil => rfl
 | cons h t ih => rw [List.map_cons, List.map_cons, ih, h.1]
theorem KV.length {kvs : List (κ × V)} {vs : List (κ × Value)} (r : KV kvs vs) : kvs.length = vs.length := Paired.length r
end
theorem lJ {P : Program} {w : World} {k : Key} {u : Value} (r : aR (kV k) u) : (aA P w).is k u = true := by
 cases k with
 | inl i => obtain ⟨t, e⟩ := (show ∃ t, u = Value.int i t from r); subst e; exact lB P w i t
 | inr x => obtain ⟨t, e⟩ := (show ∃ t, u = Value.str x t from r); subst e; exact kW P w x t
theorem iS {P : Program} {w : World} : ∀ {ks : List Key} {us : List Value}, aF (ks.map kV) us -> ItemsAre (aA P w) ks us
 | [], _, r => by rw [List.map_nil] at r; cases r; exact .nil
 | k :: ks, _, r => by
  rw [List.map_cons] at r
  cases r with
  | cons h t => exact .cons (lJ h) (iS t)
abbrev KT (H : Hp) : List (List Key × V) -> List (List Key × Addr × Value) -> Prop := Paired fun p q => p.1 = q.1 /\ H q.2.1 = some (.tup (p.1.map kV)) /\ aR p.2 q.2.2
theorem KT.val {H : Hp} {kvs : List (List Key × V)} {xs : List (List Key × Addr × Value)} (r : KT H kvs xs) (k : List Key) : fz (df kvs k) ((atKey xs k).map (·.2)) := by
 induction r with
 | nil => exact True.intro
 | @cons p q ps qs h t ih =>
  obtain ⟨h1, _, h2⟩ := h
  by_cases e : p.1 = k
  ·have e' : q.1 = k := h1.symm.trans e
   have b : atKey (q :: qs) k = some q.2 := by simp [atKey, List.find?_cons, e']
   rw [bJ e, b]; exact h2
  ·have e' : ¬ q.1 = k := fun z => e (h1.trans z)
   have b : atKey (q :: qs) k = atKey qs k := by simp [atKey, List.find?_cons, e']
   rw [bE e, b]; exact ih
theorem KT.repl {H : Hp} {kvs : List (List Key × V)} {xs : List (List Key × Addr × Value)} (r : KT H kvs xs) (k : List Key) {y : V} {u : Value} (ry : aR y u) :
  KT H (kvs.map fun kv => if kv.1 = k then (kv.1, y) else kv) (xs.map (putAt k u)) := by
 induction r with
 | nil => exact .nil
 | @cons p q ps qs h t ih =>
  rw [List.map_cons, List.map_cons]
  refine .cons ?_ ih
  obtain ⟨h1, h2, h3⟩ := h
  unfold putAt
  by_cases e : p.1 = k
  ·rw [if_pos e, if_pos (h1.symm.trans e)]; exact ⟨h1, h2, ry⟩
  ·rw [if_neg e, if_neg (fun z => e (h1.trans z))]; exact ⟨h1, h2, h3⟩
theorem KT.put {H : Hp} {kvs : List (List Key × V)} {xs : List (List Key × Addr × Value)} (r : KT H kvs xs) (k : List Key) {b : Addr} {y : V} {u : Value} (hb : H b = some (.tup (k.map kV))) (ry : aR y u) :
  KT H (cx kvs k y) (storedH xs k b u) := by
 have e : (kvs.any fun kv => decide (kv.1 = k)) = (atKey xs k).isSome := by
  rw [kY, (r.val k).isSome_eq, Option.isSome_map]
 unfold cx storedH
 rw [e]
 by_cases q : (atKey xs k).isSome = true
 ·rw [if_pos q, if_pos q]; exact r.repl k ry
 ·rw [if_neg q, if_neg q]; exact Paired.snoc r ⟨rfl, hb, ry⟩
theorem KT.keeps {H H' : Hp} {kvs : List (List Key × V)} {xs : List (List Key × Addr × Value)} (r : KT H kvs xs) (ht : ∀ b ys, H b = some (.tup ys) -> H' b = some (.tup ys)) : KT H' kvs xs :=
 Paired.mapP r fun _ _ z => ⟨z.1, ht _ _ z.2.1, z.2.2⟩
section
variable {P : Program} {w : World} {H : Hp} {h : Heap} {a : Addr}
theorem tG {u : HO} (ok : HOk P w H h) (e : Rd H a u) : aU P w H h a u := e.ok ok
theorem gp {kvs : List (Key × V)} (ok : HOk P w H h) (e : Rd H a (.dK kvs)) : kvs.length <= sizeLine /\ (a == sysModules) = false /\ ∃ vs, KV kvs vs /\ h.DictOf (aA P w) a vs :=
 show aU P w H h a (.dK kvs) from tG ok e
theorem hV {kvs : List (Key × V)} (ok : HOk P w H h) (e : H a = some (.dK kvs)) : kvs.length <= sizeLine /\ (a == sysModules) = false /\ ∃ vs, KV kvs vs /\ h.DictOf (aA P w) a vs := gp ok (.inl e)
theorem gX {ks : List Key} (ok : HOk P w H h) (e : H a = some (.tup (ks.map kV))) : (tupleKind (aA P w)).is h ks a := by
 obtain ⟨_, its, r, ⟨o, h1, h2, n, h3⟩, _⟩ := (show aU P w H h a (.tup (ks.map kV)) from ok a _ e)
 exact ⟨o, its.toArray, n, h1, h2, h3, by simpa using iS r⟩
theorem kU {kvs : List (List Key × V)} (ok : HOk P w H h) (e : Rd H a (.dT kvs)) : kvs.length <= sizeLine /\ (a == sysModules) = false /\
  ∃ xs, KT H kvs xs /\ h.DictOfH (tupleKind (aA P w)) a xs := by
 obtain ⟨z, y, xs, r, o, es, ep, h1, h2, h3, h4, h5⟩ := (show aU P w H h a (.dT kvs) from tG ok e)
 refine ⟨z, y, xs, r, o, es, ep, h1, h2, h3, h4, fun x hx => ?_, h5⟩
 have all : ∀ {l : List (List Key × V)} {m : List (List Key × Addr × Value)}, KT H l m -> ∀ x ∈ m, (tupleKind (aA P w)).is h x.1 x.2.1 := by
  intro l m q
  induction q with
  | nil => intro x hx; exact nomatch hx
  | @cons p q ps qs hq t ih =>
   intro x hx
   rcases List.mem_cons.mp hx with e | hx
   ·subst e
    exact gX ok (by rw [<- hq.1]; exact hq.2.1)
   ·exact ih x hx
 exact all r x hx
theorem vQ {kvs : List (List Key × V)} (ok : HOk P w H h) (e : H a = some (.dT kvs)) : kvs.length <= sizeLine /\ (a == sysModules) = false /\
  ∃ xs, KT H kvs xs /\ h.DictOfH (tupleKind (aA P w)) a xs := kU ok (.inl e)
end
def fA (H : Hp) (a : Addr) (y : V) (r : Option V) : Prop :=
 (∃ kvs k, Rd H a (.dK kvs) /\ y = kV k /\ r = df kvs k) \/ ∃ kvs k b, Rd H a (.dT kvs) /\ y = .ref b /\ H b = some (.tup (k.map kV)) /\ r = df kvs k
def gZ (H : Hp) (a : Addr) (y v : V) (H' : Hp) : Prop :=
 (∃ kvs k, H a = some (.dK kvs) /\ y = kV k /\ kvs.length < sizeLine /\ H' = upd H a (.dK (cx kvs k v))) \/
 ∃ kvs k b, H a = some (.dT kvs) /\ y = .ref b /\ H b = some (.tup (k.map kV)) /\ kvs.length < sizeLine /\ H' = upd H a (.dT (cx kvs k v))
theorem fA.k {H : Hp} {a : Addr} {kvs : List (Key × V)} {k : Key} (e : H a = some (.dK kvs)) : fA H a (kV k) (df kvs k) := .inl ⟨kvs, k, .inl e, rfl, rfl⟩
theorem gZ.k {H : Hp} {a : Addr} {kvs : List (Key × V)} {k : Key} {v : V} (e : H a = some (.dK kvs)) (hl : kvs.length < sizeLine) : gZ H a (kV k) v (upd H a (.dK (cx kvs k v))) := .inl ⟨kvs, k, e, rfl, hl, rfl⟩
section
variable {X : Cx} {pins : List (Addr × Obj)} {σ : St} {H : Hp} {s : Shared} {a : Addr} {y v : V} {u r : Value} {o : Option V} {A : Around} {E : Value -> Shared -> Prop}
theorem Inv.big (I : Inv X pins σ H s) : sysModules < s.heap.objs.size := by
 have h : mainGlobals < s.heap.objs.size := (I.mod.glob.keeps I.bk).lt
 exact Nat.lt_trans (by decide) h
theorem oF {Q : Value -> Shared -> Prop} (hu : A.units + 1 < cLine) (I : Inv X pins σ H s) (g : fA H a y (some v)) (ry : aR y u) (h : ∀ w' s', Inv X pins σ H s' -> aR v w' -> Q w' s') :
  wpAny (model X.prog X.w) A (getItem (.ref a) u) Q E s := by
 rcases g with ⟨kvs, k, e, ey, l⟩ | ⟨kvs, k, b, e, ey, eb, l⟩
 ·subst ey
  obtain ⟨z, hd, vs, rel, dd⟩ := gp I.hok e
  obtain ⟨w', hw, rw'⟩ := fz.some_of (v := v) (o := valueAt vs k) (by rw [l]; exact rel.val k)
  exact wpAny_getItem_of (lJ ry) dd.mapOf hw (h w' _ (I.tok _) rw')
 ·subst ey
  cases (show u = Value.ref b from ry)
  obtain ⟨z, hd, xs, rel, dd⟩ := kU I.hok e
  obtain ⟨w', hw, rw'⟩ := fz.some_of (v := v) (o := (atKey xs k).map (·.2)) (by rw [l]; exact rel.val k)
  obtain ⟨p, hp, hp2⟩ := Option.map_eq_some_iff.mp hw
  refine wpAny_getItem_heap (tupleKind_room_in1 hu) (gX I.hok eb) dd hp ?_
  rw [hp2]
  exact h w' _ (I.tok _) rw'
theorem gI {h' : Heap} {t' : Nat} {ob : HO} (I : Inv X pins σ H s) (mu : Mut (H a)) (hs : Heap.SameBut a s.heap h') (he : ∃ q, h'.get? a = some q) (new : aU X.prog X.w (upd H a ob) h' a ob) :
  Inv X pins σ (upd H a ob) { s with heap := h', toks := t' } :=
 I.write (x := a) (e := a) mu (.inl rfl) (fun b q hb z => (hs.2 b hb).trans z) he new
theorem lL {P : Program} {w : World} {H' : Hp} {h' : Heap} {kvs : List (Key × V)} {vs : List (Key × Value)} (z : kvs.length <= sizeLine) (hd : (a == sysModules) = false) (rel : KV kvs vs) (dd : h'.DictOf (aA P w) a vs) :
  aU P w H' h' a (.dK kvs) := ⟨z, hd, vs, rel, dd⟩
theorem oS {H' : Hp} {Q : Unit -> Shared -> Prop} (hu : A.units + 1 < cLine) (I : Inv X pins σ H s) (g : gZ H a y v H') (ry : aR y u) (rv : aR v r) (h : ∀ s', Inv X pins σ H' s' -> Q () s') :
  wpAny (model X.prog X.w) A (setItem (.ref a) u r) Q E s := by
 rcases g with ⟨kvs, k, e, ey, l, eH⟩ | ⟨kvs, k, b, e, ey, eb, l, eH⟩
 ·subst ey eH
  obtain ⟨z, hd, vs, rel, dd⟩ := hV I.hok e
  have hz : vs.length <= sizeLine := by rw [<- rel.length]; exact z
  have hl : (cx kvs k v).length <= sizeLine := by have := eu kvs k v; omega
  refine wpAny_setItem_pairs (hsz := hz) (lJ ry) dd fun h' dd' hs => h _ ?_
  have he : ∃ q, h'.get? a = some q := let ⟨q, _, _, hq, _⟩ := dd'; ⟨q, hq⟩
  exact gI I (by rw [e]; exact True.intro) hs he (lL hl hd (rel.put k rv) dd')
 ·subst ey eH
  cases (show u = Value.ref b from ry)
  obtain ⟨z, hd, xs, rel, dd⟩ := vQ I.hok e
  have hz : xs.length <= sizeLine := by rw [<- Paired.length rel]; exact z
  have hl : (cx kvs k v).length <= sizeLine := by have := eu kvs k v; omega
  refine wpAny_setItem_heap (hsz := hz) (tupleKind_room_in1 hu) (gX I.hok eb) dd fun h' dd' hs => h _ ?_
  obtain ⟨q, es, ep, hq, h2, h3, h4, _, h5⟩ := dd'
  refine gI I (by rw [e]; exact True.intro) hs ⟨q, hq⟩ ⟨hl, hd, _, (rel.put k eb rv).keeps fun c ys ec => ?_, q, es, ep, hq, h2, h3, h4, h5⟩
  rw [au (gU ec e (fun z => nomatch z))]
  exact ec
end
section
variable {X : Cx} {pins : List (Addr × Obj)} {σ : St} {H : Hp} {s : Shared} {a : Addr} {kvs : List (Key × V)} {k : Key} {u : Value} {A : Around} {E : Value -> Shared -> Prop}
end
def ve (i : Expr) : Prop := ∀ ov iv, subscripted i false ov iv = operate [ov, iv] (getItem ov iv)
theorem se {prog : Program} {w : World} {A : Around} {E : Value -> Shared -> Prop} {s : Shared} {env : Env} {value slice : Expr} {pos : Pos} {T id : String} {Q : Value -> Shared -> Prop}
  (hl : typeLookup (.type T) "__getitem__" = pure (some (.builtin id))) (hs : ve slice)
  (h : wpAny (model prog w) A (eval value env) (fun o s₁ => wpAny (model prog w) A (eval slice env) (fun i s₂ => s₂.TypeIs o T /\ wpAny (model prog w) A (getItem o i) Q E s₂) E s₁) E s) :
  wpAny (model prog w) A (eval (.Subscript value slice pos) env) Q E s := by
 refine Subscript_ (wpAny_mono h (fun o s₁ h₁ => wpAny_mono h₁ (fun i s₂ h₂ => ?_) fun _ _ x => x) fun _ _ x => x)
 obtain ⟨hT, h₂⟩ := h₂
 unfold subscriptTail
 refine wpAny_bind ?_
 rw [getitemInPython_of_ne hT.not_modules]
 refine wpAny_bind (wpAny_specialOf hT hl ?_)
 have fin : wpAny (model prog w) A (subscripted slice false o i) (fun r s₃ => wpAny (model prog w) A (letTemporaryGo value o r >>= fun _ => pure r) Q E s₃) E s₂ := by
  rw [hs o i]
  exact wpAny_operating (wpAny_mono h₂ (fun r s₃ h₃ => wpAny_bind (wpAny_letTemporaryGo (wpAny_pure h₃))) fun _ _ x => x)
 first
  | exact wpAny_pure (wpAny_bind fin)
  | exact wpAny_bind (wpAny_pure (wpAny_bind fin))
  | exact wpAny_bind fin
theorem kF {X : Cx} {pins : List (Addr × Obj)} {σ : St} {H : Hp} {s : Shared} {a : Addr} {y : V} {o : Option V} (I : Inv X pins σ H s) (g : fA H a y o) : s.TypeIs (.ref a) "dict" := by
 rcases g with ⟨kvs, k, e, _, _⟩ | ⟨kvs, k, b, e, _, _, _⟩
 ·obtain ⟨_, _, vs, _, dd⟩ := gp I.hok e
  exact dd.typeIs
 ·obtain ⟨_, _, xs, _, dd⟩ := kU I.hok e
  exact dd.typeIs
def vA (td ty : TE) : TE := fun σ H Q => td σ H fun x H1 => ty σ H1 fun y H2 => ∃ a v, x = .ref a /\ fA H2 a y (some v) /\ Q v H2
def vR (td ty tv : TE) : TS := fun D σ H => tv σ H fun v H1 => td σ H1 fun x H2 => ty σ H2 fun y H3 => ∃ a H4, x = .ref a /\ gZ H3 a y v H4 /\ D.nx σ H4
section
variable {X : Cx} {o i e value : Expr} {pos pos' tpos : Pos} {td ty tv : TE}
theorem nU (hu : X.A.units + 1 < cLine) (ho : PE X o td) (hi : PE X i ty) (hs : ve i) : PE X (.Subscript o i pos) (vA td ty) := by
 intro pins s σ H Q I h
 refine se PySem.F.slot_dict_getitem.lookup hs (thn (ho pins s σ H _ I h) fun u s1 ⟨x, H1, I1, rx, q1⟩ => thn (hi pins s1 σ H1 _ I1 q1) fun iv s2 ⟨y, H2, I2, ry, a, v, ex, g, q2⟩ => ?_)
 subst ex
 obtain rfl : u = Value.ref a := rx
 exact ⟨kF I2 g, oF hu I2 g ry fun w' s3 I3 rw' => ⟨v, H2, I3, rw', q2⟩⟩
theorem jJ (hu : X.A.units + 1 < cLine) (ho : PE X o td) (hi : PE X i ty) (hv : PE X value tv) (hs : swapsWith value (some (.Subscript o i pos')) pos.line X.env = pure false) :
  PS X (.Assign [.Subscript o i pos'] value pos) (vR td ty tv) := by
 intro pins s σ H D I h
 refine wpAny_Assign_Subscript (thn (hv pins s σ H _ I h) fun r s1 ⟨v, H1, I1, rv, q1⟩ => thn (ho pins s1 σ H1 _ I1 q1) fun u s2 ⟨x, H2, I2, rx, q2⟩ => thn (hi pins s2 σ H2 _ I2 q2) fun iv s3 ⟨y, H3, I3, ry, a, H4, ex, g, q3⟩ => ?_) hs
 subst ex
 obtain rfl : u = Value.ref a := rx
 exact oS hu I3 g ry rv fun s4 I4 => ⟨σ, H4, I4, q3⟩
end
theorem ls {P : Program} {w : World} {H : Hp} (h : Heap) (hb : sysModules < h.objs.size) : aU P w H (h.push { cls := .type "dict", data := .dict #[] }) h.objs.size (.dK []) :=
 ⟨Nat.zero_le _, beq_eq_false_iff_ne.mpr (Ne.symm (Nat.ne_of_lt hb)), [], .nil, Heap.DictOf.new h⟩
def tT : TE := fun _ H Q => ∀ p, H p = none -> Q (.ref p) (upd H p (.dK []))
section
variable {X : Cx} {pos : Pos}
theorem qJ : PE X (.Dict [] [] pos) tT := fun pins s σ H Q I h =>
 wpAny_Dict_empty ⟨.ref s.heap.objs.size, _, I.laid (a := s.heap.objs.size) (o := .dK []) (t' := s.toks) (fun _ _ q => Heap.get?_push_of_some _ q) (Nat.le_refl _) (ls s.heap I.big), rfl, h _ (I.hok.fresh (Nat.le_refl _))⟩
end
def lR : List (TE × TE) -> St -> Hp -> (List (V × V) -> Hp -> Prop) -> Prop
 | [], _, H, Q => Q [] H
 | (tk, tv) :: r, σ, H, Q => tk σ H fun x H1 => tv σ H1 fun y H2 => lR r σ H2 fun ps H3 => Q ((x, y) :: ps) H3
abbrev VV : List (V × V) -> List (Value × Value) -> Prop := Paired fun p q => aR p.1 q.1 /\ aR p.2 q.2
def PPs (X : Cx) (pos : Pos) (keys : List (Option Expr)) (values : List Expr) (trs : List (TE × TE)) : Prop :=
 ∀ (pins : List (Addr × Obj)) (s : Shared) (σ : St) (H : Hp) (Q : List (V × V) -> Hp -> Prop), Inv X pins σ H s -> lR trs σ H Q ->
  wpAny (model X.prog X.w) X.A (evalPairs (pairTrees keys values X.env pos)) (fun vs s' => ∃ ps H', Inv X pins σ H' s' /\ VV ps vs /\ Q ps H') X.xe s
theorem nM {X : Cx} {pos : Pos} : PPs X pos [] [] [] := fun pins s σ H Q I h => pairTrees_nil_walk ⟨[], H, I, .nil, h⟩
theorem dc {X : Cx} {pos : Pos} {k v : Expr} {ks : List (Option Expr)} {vs : List Expr} {tk tv : TE} {trs : List (TE × TE)} (hk : PE X k tk) (hv : PE X v tv) (hr : PPs X pos ks vs trs) :
  PPs X pos (some k :: ks) (v :: vs) ((tk, tv) :: trs) := fun pins s σ H Q I h =>
 pairTrees_cons_walk (thn (hk pins s σ H _ I h) fun u s1 ⟨x, H1, I1, rx, q1⟩ => thn (hv pins s1 σ H1 _ I1 q1) fun w2 s2 ⟨y, H2, I2, ry, q2⟩ =>
  thn (hr pins s2 σ H2 _ I2 q2) fun ws s3 ⟨ps, H3, I3, rel, q3⟩ => ⟨(x, y) :: ps, H3, I3, .cons ⟨rx, ry⟩ rel, q3⟩)
def gd (kvs more : List (Key × V)) : List (Key × V) := more.foldl (fun acc kv => cx acc kv.1 kv.2) kvs
theorem KV.merge : ∀ {more : List (Key × V)} {rs : List (Key × Value)} {kvs : List (Key × V)} {vs : List (Key × Value)}, KV more rs -> KV kvs vs -> KV (gd kvs more) (merged vs rs) := by
 intro more rs kvs vs r
 unfold KV at r
 induction r generalizing kvs vs with
 | nil => intro q; exact q
 | @cons p q ps qs h t ih =>
  intro r0
  have e : KV (cx kvs p.1 p.2) (stored vs q.1 q.2) := by
   have := r0.put p.1 h.2
   rw [<- h.1]; exact this
  exact ih e
theorem eW : ∀ (more kvs : List (Key × V)), (gd kvs more).length <= kvs.length + more.length
 | [], kvs => by show kvs.length <= kvs.length + 0; omega
 | p :: r, kvs => by
  have h1 := eW r (cx kvs p.1 p.2)
  have h2 := eu kvs p.1 p.2
  show (gd (cx kvs p.1 p.2) r).length <= _
  rw [List.length_cons]; omega
theorem gY {P : Program} {w : World} : ∀ {kvs : List (Key × V)} {ws : List (Value × Value)}, VV (kvs.map fun kv => (kV kv.1, kv.2)) ws -> ∃ rs, Carries (aA P w) ws rs /\ KV kvs rs
 | [], _, r => by rw [List.map_nil] at r; cases r; exact ⟨[], True.intro, .nil⟩
 | p :: kvs, _, r => by
  rw [List.map_cons] at r
  cases r with
  | @cons a b as bs h t =>
   obtain ⟨rs, c, q⟩ := gY (P := P) (w := w) t
   obtain ⟨b1, b2⟩ := b
   exact ⟨(p.1, b2) :: rs, ⟨lJ h.1, rfl, c⟩, .cons ⟨rfl, h.2⟩ q⟩
def uZ (trs : List (TE × TE)) : TE := fun σ H Q => ∀ p, H p = none -> lR trs σ (upd H p (.dK [])) fun ps H2 => H2 p = some (.dK []) /\ ∃ kvs : List (Key × V), ps = kvs.map (fun kv => (kV kv.1, kv.2)) /\ kvs.length <= 15 /\ Q (.ref p) (upd H2 p (.dK (gd [] kvs)))
theorem nP {X : Cx} {pos : Pos} {keys : List (Option Expr)} {values : List Expr} {trs : List (TE × TE)} (h : PPs X pos keys values trs) (hall : keys.all (·.isSome) = true) (hl : keys.length = values.length) (h0 : keys ≠ [])
  (h15 : keys.length <= 15) : PE X (.Dict keys values pos) (uZ trs) := by
 intro pins s σ H Q I q
 have hn := I.hok.fresh (Nat.le_refl s.heap.objs.size)
 have I1 := I.laid (a := s.heap.objs.size) (o := .dK []) (h' := s.heap.push { cls := .type "dict", data := .dict #[] }) (t' := s.toks) (fun _ _ q => Heap.get?_push_of_some _ q) (Nat.le_refl _) (ls s.heap I.big)
 refine wpAny_Dict_walk (knd := aA X.prog X.w) hall hl h0 h15 (thn (h pins _ σ _ _ I1 (q _ hn)) fun ws s2 ⟨ps, H2, I2, rel, e, kvs, ep, lk, q2⟩ => ?_)
 subst ep
 obtain ⟨rs, c, rk⟩ := gY (P := X.prog) (w := X.w) rel
 obtain ⟨z, hd, vs0, r0, dd⟩ := hV I2.hok e
 cases r0
 refine ⟨rs, c, dd, fun h' dd' hs => ⟨.ref s.heap.objs.size, _, ?_, rfl, q2⟩⟩
 have hz : (gd [] kvs).length <= sizeLine := by
  have h1 := eW kvs []
  rw [List.length_nil] at h1
  rw [sizeLine_eq]; omega
 have he : ∃ q, h'.get? s.heap.objs.size = some q := let ⟨q, _, _, hq, _⟩ := dd'; ⟨q, hq⟩
 exact gI I2 (by rw [e]; exact True.intro) hs he (lL hz hd (rk.merge .nil) dd')
structure M2 (X : Cx) (o : Expr) (m : Str) (apos : Pos) (e f : Expr) (cpos : Pos) : Prop where
 base : attributeBase o m X.env (eval o X.env) = eval o X.env
 few : ((backTo cpos (starEach [e, f] X.env)).all (fun x => !x.1) && (backToKw cpos (keywordEach [] X.env)).all (fun x => x.1.isSome)
  && decide (([e, f] : List Expr).length + ([] : List Keyword).length + (if ([] : List Keyword).isEmpty then 0 else 1) < 30)) = true
 line : (apos.endLine == cpos.line) = true
 trees : backTo cpos (starEach [e, f] X.env) = [(false, eval e X.env), (false, eval f X.env)]
def IsD (H : Hp) (a : Addr) : Prop := (∃ kvs, Rd H a (.dK kvs)) \/ ∃ kvs, Rd H a (.dT kvs)
theorem tV {X : Cx} {pins : List (Addr × Obj)} {σ : St} {H : Hp} {s : Shared} {a : Addr} (I : Inv X pins σ H s) (d : IsD H a) :
  s.TypeIs (.ref a) "dict" /\ (∀ b, Value.ref a = .ref b -> ∃ ob, s.heap.get? b = some ob /\ ob.dict = none) /\ (a == sysModules) = false := by
 rcases d with ⟨kvs, e⟩ | ⟨kvs, e⟩
 ·obtain ⟨_, hd, vs, _, dd⟩ := gp I.hok e
  refine ⟨dd.typeIs, fun b q => ?_, hd⟩
  cases q
  obtain ⟨ob, _, _, h1, h2, _⟩ := dd
  exact ⟨ob, h1, h2.2.1⟩
 ·obtain ⟨_, hd, xs, _, dd⟩ := kU I.hok e
  refine ⟨dd.typeIs, fun b q => ?_, hd⟩
  cases q
  obtain ⟨ob, _, _, h1, h2, _⟩ := dd
  exact ⟨ob, h1, h2.2.1⟩
section
variable {X : Cx} {pins : List (Addr × Obj)} {σ : St} {H : Hp} {s : Shared} {a : Addr} {y d : V} {u r : Value} {o : Option V} {A : Around} {E : Value -> Shared -> Prop}
theorem uM {Q : Value -> Shared -> Prop} (hu : A.units + 1 < cLine) (I : Inv X pins σ H s) (g : fA H a y o) (ry : aR y u) (rd : aR d r) (h : ∀ w' s', Inv X pins σ H s' -> aR (o.getD d) w' -> Q w' s') :
  wpAny (model X.prog X.w) A (call (.builtin "dict.get") [.ref a, u, r]) Q E s := by
 rcases g with ⟨kvs, k, e, ey, l⟩ | ⟨kvs, k, b, e, ey, eb, l⟩
 ·subst ey
  obtain ⟨z, hd, vs, rel, dd⟩ := gp I.hok e
  refine call_meetsIn PySem.F.slot_dict_get dd.typeIs PySem.F.entry_dict_get (PySem.F.args_dict_get_3 _ _ _) (meets_dict_get_default (aA X.prog X.w) a (lJ ry) hd r) ⟨_, dd.mapOf, h _ _ (I.tok _) ?_⟩
  rw [l]
  exact (rel.val k).getD rd
 ·subst ey
  cases (show u = Value.ref b from ry)
  obtain ⟨z, hd, xs, rel, dd⟩ := kU I.hok e
  refine call_meetsIn PySem.F.slot_dict_get dd.typeIs PySem.F.entry_dict_get (PySem.F.args_dict_get_3 _ _ _) (meetsH_dict_get_default (tupleKind (aA X.prog X.w)) a b hd r) ⟨tupleKind_room_in1 hu, k, xs, gX I.hok eb, dd, h _ _ (I.tok _) ?_⟩
  rw [l]
  exact (rel.val k).getD rd
end
def uY (td ty tx : TE) : TE := fun σ H Q => td σ H fun x H1 => ∃ a, x = .ref a /\ IsD H1 a /\ ty σ H1 fun y H2 => tx σ H2 fun z H3 => ∃ o, fA H3 a y o /\ Q (o.getD z) H3
section
variable {X : Cx} {o e f : Expr} {apos cpos : Pos} {td ty tx : TE}
theorem gQ (hu : X.A.units + 1 < cLine) (ho : PE X o td) (he : PE X e ty) (hf : PE X f tx) (m : M2 X o "get" apos e f cpos) : PE X (.Call (.Attribute o "get" apos) [e, f] [] cpos) (uY td ty tx) := by
 intro pins s σ H Q I h
 refine wpAny_Call_method m.base m.few m.line PySem.F.plainAttrs_dict PySem.F.slot_dict_get PySem.F.type_dict_get (thn (ho pins s σ H _ I h) fun u s1 ⟨x, H1, I1, rx, a, ex, d, q1⟩ => ?_)
 subst ex
 obtain rfl : u = Value.ref a := rx
 obtain ⟨t1, t2, _⟩ := tV I1 d
 refine ⟨t1, t2, ?_⟩
 rw [m.trees]
 refine Calls.callWith_builtin rfl (Calls.evalArgs_plain (Calls.spliced_cons (thn (he pins s1 σ H1 _ I1 q1) fun iv s2 ⟨y, H2, I2, ry, q2⟩ =>
  Calls.spliced_cons (thn (hf pins s2 σ H2 _ I2 q2) fun fv s3 ⟨z, H3, I3, rz, ov, g, q3⟩ => Calls.spliced_nil ?_))))
 exact uM hu I3 g ry rz fun w' s4 I4 rw' => ⟨_, H3, I4, rw', q3⟩
end
section
variable {X : Cx} {pins : List (Addr × Obj)} {σ : St} {H : Hp} {s : Shared} {a : Addr} {kvs : List (Key × V)} {A : Around} {E : Value -> Shared -> Prop}
end
section
variable {X : Cx} {pins : List (Addr × Obj)} {σ : St} {H : Hp} {s : Shared} {a : Addr} {y : V} {u : Value} {A : Around} {E : Value -> Shared -> Prop}
end
end L2
namespace HT
open PySem PyProof.Rows
section
open PySem.SeqAt
open PySem.AutoSeq1 (wpAny_loadPart')
open PySem.MeetsSeq PySem.MeetsSeq2 PySem.MeetsSeq3
end
section
variable {prog : Program} {w : World} {A : Around} {E : Value -> Shared -> Prop} {s : Shared}
theorem cat_tup {t b : Addr} {vs ws : List Value} {Q : Value -> Shared -> Prop} (ht : IsTup s.heap t vs.toArray) (hb : IsTup s.heap b ws.toArray) (hv : vs ≠ [])
  (h1 : ws = [] -> Q (.ref t) s) (h2 : ws ≠ [] -> Q (.ref s.heap.objs.size) { s with heap := s.heap.push { cls := .type "tuple", data := .seq (vs ++ ws).toArray } })
  (hsz : vs.length + ws.length <= sizeLine) : wpAny (model prog w) A (binaryOp .Add (.ref t) (.ref b)) Q E s := by
 obtain ⟨⟨cls, dd, data, sl⟩, ho, hc, n, hd⟩ := id ht
 obtain ⟨⟨cls2, dd2, data2, sl2⟩, ho2, hc2, n2, hd2⟩ := id hb
 simp only at hc hd hc2 hd2
 subst hc hd hc2 hd2
 have e : vs.toArray ++ ws.toArray = (vs ++ ws).toArray := by simp
 by_cases hw : ws = []
 ·exact concat_meets ⟨_, ho, rfl⟩ ⟨_, ho2, rfl⟩ noFill_tuple_add seq_tuple_add PySem.F.slot_tuple_add PySem.F.entry_tuple_add (PySem.F.args_tuple_add_2 _ _)
   (tuple_addW1 t b vs.toArray ws.toArray n n2 dd dd2 sl sl2 (by simpa using hv) (by simp [hw])) ⟨ho, ho2, h1 hw⟩
 ·refine concat_meets ⟨_, ho, rfl⟩ ⟨_, ho2, rfl⟩ noFill_tuple_add seq_tuple_add PySem.F.slot_tuple_add PySem.F.entry_tuple_add (PySem.F.args_tuple_add_2 _ _)
   (tuple_addW2 t b vs.toArray ws.toArray n n2 dd dd2 sl sl2 (by simpa using hv) (by simpa using hw) (by rw [List.size_toArray, List.size_toArray]; exact hsz)) ⟨ho, ho2, ?_⟩
  rw [e]
  exact h2 hw
def sIx (n d : Nat) : Option Int -> Nat
 | none => d
 | some v => if v < 0 then (v + (n : Int)).toNat else min v.toNat n
theorem sIx_nat (n d k : Nat) : sIx n d (some (k : Int)) = min k n := by
 show (if (k : Int) < 0 then ((k : Int) + (n : Int)).toNat else min (k : Int).toNat n) = min k n
 rw [if_neg (by omega), Int.toNat_natCast]
theorem uC (n d : Nat) (hd : d <= n) (o : Option Int) : sIx n d o <= n := by
 cases o with
 | none => exact hd
 | some v =>
  show (if v < 0 then (v + (n : Int)).toNat else min v.toNat n) <= n
  by_cases hv : v < 0
  ·rw [if_pos hv]; omega
  ·rw [if_neg hv]; exact Nat.min_le_right _ _
theorem nV (v : Int) (n d : Nat) : (if v < 0 then max (v + (n : Int)) 0 else min v (n : Int)) = ((sIx n d (some v) : Nat) : Int) := by
 show (if v < 0 then max (v + (n : Int)) 0 else min v (n : Int)) = (((if v < 0 then (v + (n : Int)).toNat else min v.toNat n) : Nat) : Int)
 by_cases hv : v < 0
 ·simp only [if_pos hv]; omega
 ·simp only [if_neg hv]; omega
theorem lN (lo hi : Option Int) (n : Nat) : Builtin.Slice.sliceAdjust lo hi 1 (n : Int) = (((sIx n 0 lo : Nat) : Int), ((sIx n n hi : Nat) : Int)) := by
 have h1 : ¬ ((1 : Int) < 0) := by omega
 unfold Builtin.Slice.sliceAdjust
 simp only [h1, if_false]
 refine Prod.ext ?_ ?_
 ·cases lo with
  | none => rfl
  | some v => exact nV v n 0
 ·cases hi with
  | none => rfl
  | some v => exact nV v n n
theorem mH (i j : Nat) : Builtin.Slice.slicePlaces (i : Int) (j : Int) 1 = j - i := by
 unfold Builtin.Slice.slicePlaces
 have h1 : (1 : Int) > 0 := by omega
 simp only [h1, if_true, Int.ediv_one]
 split <;> omega
theorem iy {v : Value} {o : Option Int} {Q : Option Int -> Shared -> Prop} (p : IsPart v o) (h : Q o s) : wpAny (model prog w) A (Builtin.Slice.slicePartIndex v) Q E s := by
 cases p with
 | none => exact slicePart_none h
 | int i t => exact slicePart_int h
theorem sliceApplied_gen {sl : Addr} {vl vu : Value} {lo hi : Option Int} {n : Nat} {Q : Int × Int × Nat -> Shared -> Prop} (hs : s.heap.IsSliceOf sl vl vu .none) (pl : IsPart vl lo) (pu : IsPart vu hi)
  (h : Q (((sIx n 0 lo : Nat) : Int), 1, sIx n n hi - sIx n 0 lo) s) : wpAny (model prog w) A (Builtin.Slice.sliceApplied (.ref sl) (pure (n : Int))) Q E s := by
 obtain ⟨os, hos, hcs, hds⟩ := id hs
 unfold Builtin.Slice.sliceApplied Builtin.Slice.sliceFields
 refine wpAny_bind (wpAny_bind (wpAny_field hos hds (x := vl) rfl (wpAny_bind (wpAny_field hos hds (x := vu) rfl (wpAny_bind (wpAny_field hos hds (x := .none) rfl (wpAny_pure ?_)))))))
 refine wpAny_bind (slicePart_none ?_)
 show wpAny _ _ (if ((1 : Int) == 0) = true then _ else _) _ _ s
 rw [if_neg (by decide)]
 refine wpAny_bind (iy pl (wpAny_bind (iy pu (wpAny_bind (wpAny_pure ?_)))))
 show wpAny _ _ (match Builtin.Slice.sliceAdjust lo hi 1 (n : Int) with | (lo, hi) => pure (lo, (1 : Int), Builtin.Slice.slicePlaces lo hi 1)) _ _ s
 rw [lN lo hi n]
 show wpAny _ _ (pure (((sIx n 0 lo : Nat) : Int), (1 : Int), Builtin.Slice.slicePlaces ((sIx n 0 lo : Nat) : Int) ((sIx n n hi : Nat) : Int) 1)) _ _ s
 rw [mH]
 exact wpAny_pure h
theorem pick_gen (xs : Array Value) (i k : Nat) : ((List.range k).filterMap fun (m : Nat) => xs[((i : Int) + (m : Int) * 1).toNat]?).toArray = ((xs.toList.drop i).take k).toArray := by
 have e : (fun (m : Nat) => xs[((i : Int) + (m : Int) * 1).toNat]?) = fun m => xs[i + m]? := by
  funext m
  have : ((i : Int) + (m : Int) * 1).toNat = i + m := by omega
  rw [this]
 rw [e]
 have := pick_run xs i k
 rw [List.filterMap_map] at this
 have e2 : ((fun x => xs[x]?) ∘ fun x => i + x) = fun m => xs[i + m]? := rfl
 rw [e2] at this
 rw [this]
theorem getItem_tuple_cut {t sl : Addr} {items : Array Value} {vl vu : Value} {lo hi : Option Int} {Q : Value -> Shared -> Prop} (ht : IsTup s.heap t items) (hs : s.heap.IsSliceOf sl vl vu .none) (pl : IsPart vl lo) (pu : IsPart vu hi)
  (hw : ¬ (sIx items.size 0 lo = 0 /\ sIx items.size items.size hi = items.size))
  (h : Q (.ref s.heap.objs.size) { s with heap := s.heap.push { cls := .type "tuple", data := .seq ((items.toList.drop (sIx items.size 0 lo)).take (sIx items.size items.size hi - sIx items.size 0 lo)).toArray } })
  (hsz : items.size <= sizeLine) : wpAny (model prog w) A (getItem (.ref t) (.ref sl)) Q E s := by
 have htake : sizeOk (.seq ((items.toList.drop (sIx items.size 0 lo)).take (sIx items.size items.size hi - sIx items.size 0 lo)).toArray) := by
  show ((items.toList.drop (sIx items.size 0 lo)).take (sIx items.size items.size hi - sIx items.size 0 lo)).toArray.size <= sizeLine
  rw [List.size_toArray, List.length_take, List.length_drop, Array.length_toList]
  omega
 have hj : sIx items.size items.size hi <= items.size := uC _ _ (Nat.le_refl _) hi
 obtain ⟨os, hos, hcs, hds⟩ := id hs
 have hTs : s.TypeIs (.ref sl) "slice" := ⟨os, hos, hcs⟩
 unfold getItem
 try with_reducible refine wpAny_holding ?_
 first | refine wpAny_bind (wpAny_pure ?_) | skip
 refine wpAny_bind (wpAny_sequenceKey ht.typeIs (by decide) ?_)
 refine wpAny_bind (wpAny_callSpecial?_slot (name := Str.ofString "__getitem__") ht.typeIs PyProof.Rows.slot_tuple_getitem
  (wpAny_call_entry PyProof.Rows.slot_tuple_getitem ht.typeIs entry_tuple_getitem ?_ (args_tuple_getitem _ _)))
 show wpAny _ _ (Builtin.Tuple.tupleItemsOf (.ref t) >>= _) _ _ s
 refine wpAny_bind (tupleItemsOf_ ht ?_)
 refine wpAny_bind (wpAny_typeOf hTs ?_)
 rw [if_pos (by decide)]
 refine wpAny_bind (sliceApplied_gen hs pl pu ?_)
 have hno : ¬ ((((sIx items.size 0 lo : Nat) : Int) == 0 && (1 : Int) == 1 && (sIx items.size items.size hi - sIx items.size 0 lo) == items.size) = true) := by
  intro q
  rw [Bool.and_eq_true, Bool.and_eq_true] at q
  have q1 : ((sIx items.size 0 lo : Nat) : Int) = 0 := eq_of_beq q.1.1
  have q2 : sIx items.size items.size hi - sIx items.size 0 lo = items.size := eq_of_beq q.2
  exact hw ⟨by omega, by omega⟩
 show wpAny _ _ (if (((sIx items.size 0 lo : Nat) : Int) == 0 && (1 : Int) == 1 && (sIx items.size items.size hi - sIx items.size 0 lo) == items.size) = true then _ else _) _ _ s
 rw [if_neg hno, pick_gen]
 first
  | exact wpAny_bind (m := Builtin.Tuple.tupleExact _) (wpAny_newObj_type (wpAny_pure ⟨_, rfl, wpAny_pure h⟩) htake)
  | exact wpAny_bind (m := Builtin.Tuple.tupleExact _) (wpAny_newObj_type (wpAny_bind (wpAny_pure (wpAny_pure ⟨_, rfl, wpAny_pure h⟩))) htake)
  | exact wpAny_bind (wpAny_bind (m := Builtin.Tuple.tupleExact _) (wpAny_newObj_type (wpAny_pure (wpAny_pure ⟨_, rfl, wpAny_pure h⟩)) htake))
  | exact wpAny_bind (wpAny_bind (m := Builtin.Tuple.tupleExact _) (wpAny_newObj_type (wpAny_pure ⟨_, rfl, wpAny_pure h⟩) htake))
end
end HT
namespace L2
open PySem PySem.Spec PyProof.Rows
abbrev TO := St -> Hp -> (Option Int -> Hp -> Prop) -> Prop
def PO (X : Cx) (e : Option Expr) (t : TO) : Prop :=
 ∀ (pins : List (Addr × Obj)) (s : Shared) (σ : St) (H : Hp) (Q : Option Int -> Hp -> Prop), Inv X pins σ H s -> t σ H Q ->
  wpAny (model X.prog X.w) X.A (evalPart e X.env) (fun u s' => ∃ o H', Inv X pins σ H' s' /\ IsPart u o /\ Q o H') X.xe s
def sf : TO := fun _ H Q => Q none H
def vE (t : TE) : TO := fun σ H Q => t σ H fun x H1 => ∃ i, x = .int i /\ Q (some i) H1
section
variable {X : Cx} {e : Expr} {te : TE} {lo hi : Option Expr} {tl th : TO} {pos p2 : Pos}
theorem gG : PO X none sf := by
 intro pins s σ H Q I h
 rw [evalPart_none]
 exact wpAny_pure ⟨none, H, I, .none, h⟩
theorem eJ (h : PE X e te) : PO X (some e) (vE te) := by
 intro pins s σ H Q I hw
 rw [evalPart_some]
 refine thn (h pins s σ H _ I hw) fun u s1 ⟨x, H1, I1, r1, q1⟩ => ?_
 obtain ⟨i, rfl, q⟩ := q1
 obtain ⟨t, rfl⟩ := r1
 exact ⟨some i, H1, I1, .int i t, q⟩
def SlR (X : Cx) (r : V -> Option Int -> Option Int -> Hp -> VK -> Prop) : Prop :=
 ∀ (pins : List (Addr × Obj)) (s : Shared) (σ : St) (H : Hp) (x : V) (v vl vu : Value) (lo hi : Option Int) (sl : Addr) (Q : VK), Inv X pins σ H s -> aR x v -> s.heap.IsSliceOf sl vl vu .none -> IsPart vl lo -> IsPart vu hi -> r x lo hi H Q ->
  ∃ T id, typeLookup (.type T) "__getitem__" = pure (some (.builtin id)) /\ s.TypeIs v T /\ wpAny (model X.prog X.w) X.A (getItem v (.ref sl)) (EP X pins σ Q) X.xe s
def tSl (r : V -> Option Int -> Option Int -> Hp -> VK -> Prop) (te : TE) (tl th : TO) : TE := fun σ H Q => te σ H fun x H1 => tl σ H1 fun l H2 => th σ H2 fun u H3 => r x l u H3 Q
theorem dU {r : V -> Option Int -> Option Int -> Hp -> VK -> Prop} (hr : SlR X r) (he : PE X e te) (hl : PO X lo tl) (hu : PO X hi th) : PE X (.Subscript e (.Slice lo hi none p2) pos) (tSl r te tl th) := by
 intro pins s σ H Q I h
 refine Subscript_ (thn (he pins s σ H _ I h) fun v s1 ⟨x, H1, I1, r1, q1⟩ => ?_)
 refine wpAny_Slice (thn (hl pins s1 σ H1 _ I1 q1) fun vl s2 ⟨l, H2, I2, pl, q2⟩ => thn (hu pins s2 σ H2 _ I2 q2) fun vu s3 ⟨u, H3, I3, pu, q3⟩ => ?_)
 rw [evalPart_none]
 refine wpAny_pure ?_
 have I4 : Inv X pins σ H3 { s3 with heap := s3.heap.push { cls := .type "slice", data := .fields #[vl, vu, .none] } } := I3.kept (t' := s3.toks) fun b ob q => Heap.get?_push_of_some _ q
 obtain ⟨T, id, hT, ht, hg⟩ := hr pins { s3 with heap := s3.heap.push { cls := .type "slice", data := .fields #[vl, vu, .none] } } σ H3 x v vl vu l u s3.heap.objs.size Q I4 r1 (Heap.IsSliceOf.new ..) pl pu q3
 show wpAny (model X.prog X.w) X.A (subscriptTail e (.Slice lo hi none p2) v (.ref s3.heap.objs.size)) (EP X pins σ Q) X.xe { s3 with heap := s3.heap.push { cls := .type "slice", data := .fields #[vl, vu, .none] } }
 exact tail_any (ops := [.ref s3.heap.objs.size, v]) ht hT hg (by with_unfolding_all rfl)
def cG (xs : List V) (lo hi : Option Int) : List V := (xs.drop (HT.sIx xs.length 0 lo)).take (HT.sIx xs.length xs.length hi - HT.sIx xs.length 0 lo)
theorem dS (xs : List V) (lo hi : Option Int) : (cG xs lo hi).length <= xs.length := by
 unfold cG
 rw [List.length_take, List.length_drop]
 omega
def wv (K : PySem.W.Frag) : V -> Option Int -> Option Int -> Hp -> VK -> Prop := fun x lo hi H Q => ∃ a xs, x = .ref a /\ SqT K H a xs /\
 ¬ (HT.sIx xs.length 0 lo = 0 /\ HT.sIx xs.length xs.length hi = xs.length) /\ ∀ p, H p = none -> Q (.ref p) (upd H p (.tup (cG xs lo hi)))
theorem uS : SlR X (wv X.K) := by
 intro pins s σ H x v vl vu lo hi sl Q I rx hs pl pu h
 obtain ⟨a, xs, rfl, hx, hw, q⟩ := h
 cases rx
 obtain ⟨its, r, ht, hz⟩ := I.tuple hx
 have hlen : its.toArray.size = xs.length := by rw [List.size_toArray]; exact r.length.symm
 refine ⟨"tuple", _, PyProof.Rows.slot_tuple_getitem.lookup, ht.typeIs, ?_⟩
 refine HT.getItem_tuple_cut ht hs pl pu (by rw [hlen]; exact hw) ?_ (by rw [hlen]; exact hz)
 rw [hlen]
 refine ⟨.ref s.heap.objs.size, _, I.laid (t' := s.toks) (o := .tup (cG xs lo hi)) (fun b ob q => Heap.get?_push_of_some _ q) (Nat.le_refl _) ?_, rfl, q _ (I.hok.fresh (Nat.le_refl _))⟩
 exact ⟨Nat.le_trans (dS xs lo hi) hz, _, (r.drop (HT.sIx xs.length 0 lo)).take (HT.sIx xs.length xs.length hi - HT.sIx xs.length 0 lo), IsTup.new _ _, NoD.new _ rfl⟩
def vJ (K : PySem.W.Frag) : R2 := fun x y H Q => ∃ a b xs ys, x = .ref a /\ y = .ref b /\ SqT K H a xs /\ SqT K H b ys /\ xs ≠ [] /\ xs.length + ys.length <= sizeLine /\
 (ys = [] -> Q (.ref a) H) /\ (ys ≠ [] -> ∀ p, H p = none -> Q (.ref p) (upd H p (.tup (xs ++ ys))))
theorem aF.nil_iff {xs : List V} {us : List Value} (r : aF xs us) : us = [] ↔ xs = [] := by
 cases r with
 | nil => simp
 | cons _ _ => simp
theorem rX : OpR X (binaryOp .Add) (vJ X.K) := by
 intro pins s σ H x y v u Q I rx ry h
 obtain ⟨a, b, xs, ys, rfl, rfl, ha, hb, hx, hz, q1, q2⟩ := h
 cases rx
 cases ry
 obtain ⟨its, r1, p1, _⟩ := I.tuple ha
 obtain ⟨its2, r2, p2, _⟩ := I.tuple hb
 refine HT.cat_tup p1 p2 (fun z => hx (r1.nil_iff.mp z)) (fun z => ⟨.ref a, H, I, rfl, q1 (r2.nil_iff.mp z)⟩) (fun z => ?_) (by rw [<- r1.length, <- r2.length]; exact hz)
 refine ⟨.ref s.heap.objs.size, _, I.laid (t' := s.toks) (o := .tup (xs ++ ys)) (fun b ob q => Heap.get?_push_of_some _ q) (Nat.le_refl _) ?_, rfl, q2 (fun w => z (r2.nil_iff.mpr w)) _ (I.hok.fresh (Nat.le_refl _))⟩
 exact ⟨by rw [List.length_append]; exact hz, _, r1.append r2, IsTup.new _ _, NoD.new _ rfl⟩
end
def ixN (n : Nat) (i : Int) : Option Nat := if 0 <= i then (if i < n then some i.toNat else none) else if -(n : Int) <= i then some (i + n).toNat else none
def atI {α : Type} (xs : List α) (i : Int) : Option α := (ixN xs.length i).bind fun j => xs[j]?
theorem nq {n : Nat} {i : Int} {j : Nat} (h : ixN n i = some j) : seqIndex? i n = some j /\ j < n /\ -(n : Int) <= i /\ i < n := by
 unfold ixN at h
 by_cases h0 : 0 <= i
 ·rw [if_pos h0] at h
  by_cases h1 : i < n
  ·rw [if_pos h1] at h
   have e : i.toNat = j := Option.some.inj h
   exact ⟨by rw [seqIndex_of h0 h1, e], by omega, by omega, h1⟩
  ·rw [if_neg h1] at h; cases h
 ·rw [if_neg h0] at h
  by_cases h1 : -(n : Int) <= i
  ·rw [if_pos h1] at h
   have e : (i + n).toNat = j := Option.some.inj h
   exact ⟨by rw [seqIndex_neg (by omega) h1, e], by omega, h1, by omega⟩
  ·rw [if_neg h1] at h; cases h
theorem nF {α : Type} {xs : List α} {i : Int} {v : α} (h : atI xs i = some v) : ∃ j, seqIndex? i xs.length = some j /\ xs[j]? = some v /\ j < xs.length /\ -(xs.length : Int) <= i /\ i < xs.length := by
 unfold atI at h
 cases e : ixN xs.length i with
 | none => rw [e] at h; cases h
 | some j =>
  rw [e] at h
  obtain ⟨h1, h2, h3, h4⟩ := nq e
  exact ⟨j, h1, h, h2, h3, h4⟩
theorem ai {α : Type} {xs : List α} {j : Nat} {v : α} (h : xs[j]? = some v) : atI xs (j : Int) = some v := by
 have hj : j < xs.length := (List.getElem?_eq_some_iff.mp h).1
 have e : ixN xs.length (j : Int) = some j := by
  unfold ixN
  rw [if_pos (by omega), if_pos (by omega)]; simp
 unfold atI; rw [e]; exact h
theorem fx {α : Type} (xs : List α) (v : α) : atI (xs ++ [v]) (-1) = some v := by
 have hl : (xs ++ [v]).length = xs.length + 1 := by simp
 have e : ixN (xs ++ [v]).length (-1) = some xs.length := by
  unfold ixN
  rw [hl, if_neg (by decide), if_pos (by omega)]
  congr 1
  omega
 unfold atI
 rw [e]
 show (xs ++ [v])[xs.length]? = some v
 simp
def sC (b : Expr) : Prop := ∀ o i, subscripted b false o i = operate [o, i] (getItem o i)
def IxR (X : Cx) (r : R2) : Prop :=
 ∀ (value slice : Expr) (pins : List (Addr × Obj)) (s : Shared) (σ : St) (H : Hp) (x y : V) (v u : Value) (Q : VK), Inv X pins σ H s -> aR x v -> aR y u -> r x y H Q ->
  subscripted slice false v u = operate [v, u] (getItem v u) -> wpAny (model X.prog X.w) X.A (subscriptTail value slice v u) (EP X pins σ Q) X.xe s
def MtR (X : Cx) (id : String) (r : V -> List V -> Hp -> VK -> Prop) : Prop :=
 ∀ (pins : List (Addr × Obj)) (s : Shared) (σ : St) (H : Hp) (x : V) (xs : List V) (v : Value) (us : List Value) (Q : VK), Inv X pins σ H s -> aR x v -> aF xs us -> r x xs H Q ->
  wpAny (model X.prog X.w) X.A (call (.builtin id) (v :: us)) (EP X pins σ Q) X.xe s
section
variable {X : Cx} {a b : Expr} {ta tb : TE} {pos : Pos}
theorem aG {r : R2} (hr : IxR X r) (ha : PE X a ta) (hb : PE X b tb) (hs : sC b) : PE X (.Subscript a b pos) (tOp r ta tb) := by
 intro pins s σ H Q I h
 exact Subscript_ (uL ha hb I h fun v u s2 x y H2 I2 rx ry q => hr a b pins s2 σ H2 x y v u Q I2 rx ry q (hs _ _))
def wt (K : PySem.W.Frag) : R2 := fun x y H Q => ∃ p xs i v, x = .ref p /\ y = .int i /\ SqL K H p xs /\ atI xs i = some v /\ Q v H
def vy (K : PySem.W.Frag) : R2 := fun x y H Q => ∃ p xs i v, x = .ref p /\ y = .int i /\ SqT K H p xs /\ atI xs i = some v /\ Q v H
theorem cP : IxR X (wt X.K) := by
 intro value slice pins s σ H x y v u Q I rx ry h hs
 obtain ⟨p, xs, i, z, rfl, rfl, hq, he, q⟩ := h
 cases rx
 obtain ⟨t, rfl⟩ := ry
 obtain ⟨its, r, pl, hz⟩ := I.list hq
 obtain ⟨j, h1, h2, h3, h4, h5⟩ := nF he
 obtain ⟨w, ew, rw'⟩ := r.get h2
 have hl := r.length
 have hn := gN
 have fin : EP X pins σ Q w s := ⟨z, H, I, rw', q⟩
 by_cases h0 : 0 <= i
 ·have hj : i.toNat = j := by
   rw [seqIndex_of h0 h5] at h1
   exact Option.some.inj h1
  exact item_listR pl.isList h0 (by omega) (by rw [hj]; simpa using ew) fin hs
 ·have hj : (i + (its.toArray.size : Int)).toNat = j := by
   rw [seqIndex_neg (by omega) h4] at h1
   rw [List.size_toArray, <- hl]
   exact Option.some.inj h1
  exact subscriptTail_builtinR (x := w) pl.isList.typeIs slot_list_getitem.lookup
   (wpAny_getItem_list_neg (Q := fun r s' => r = w /\ EP X pins σ Q r s') pl.isList (by omega) (by rw [List.size_toArray] <;> omega) (by omega) (by rw [hj]; simpa using ew) ⟨rfl, fin⟩) hs
theorem aE : IxR X (vy X.K) := by
 intro value slice pins s σ H x y v u Q I rx ry h hs
 obtain ⟨p, xs, i, z, rfl, rfl, hq, he, q⟩ := h
 cases rx
 obtain ⟨t, rfl⟩ := ry
 obtain ⟨its, r, pl, hz⟩ := I.tuple hq
 obtain ⟨j, h1, h2, h3, h4, h5⟩ := nF he
 obtain ⟨w, ew, rw'⟩ := r.get h2
 have hl := r.length
 have hn := gN
 have fin : EP X pins σ Q w s := ⟨z, H, I, rw', q⟩
 exact subscriptTail_builtinR (x := w) pl.typeIs slot_tuple_getitem.lookup
  (getItem_tuple (j := j) (Q := fun r s' => r = w /\ EP X pins σ Q r s') pl (by omega) (by omega) (by rw [List.size_toArray, <- hl]; exact h1) (by simpa using ew) ⟨rfl, fin⟩) hs
theorem mP (its : List Value) (n j : Nat) (u : Value) : Obj.mapSeq (·.setIfInBounds j u) { cls := .type "list", data := .seq its.toArray n } = { cls := .type "list", data := .seq (its.set j u).toArray n } := by
 simp [Obj.mapSeq]
theorem Inv.lst {pins : List (Addr × Obj)} {σ : St} {H : Hp} {s : Shared} {p : Addr} {xs : List V} (I : Inv X pins σ H s) (h : H p = some (.lst xs)) :
  ∃ (its : List Value) (n : Nat), aF xs its /\ s.heap.get? p = some { cls := .type "list", data := .seq its.toArray n } /\ xs.length <= sizeLine := by
 obtain ⟨z, its, n, r, e⟩ := I.hok p _ h
 exact ⟨its, n, r, e, z⟩
theorem Inv.lstUpd {pins : List (Addr × Obj)} {σ : St} {H : Hp} {s : Shared} {p : Addr} {xs ys : List V} {its its' : List Value} {n n' : Nat} {f : Obj -> Obj} (I : Inv X pins σ H s) (h : H p = some (.lst xs))
  (ho : s.heap.get? p = some { cls := .type "list", data := .seq its.toArray n }) (hf : f { cls := .type "list", data := .seq its.toArray n } = { cls := .type "list", data := .seq its'.toArray n' }) (r : aF ys its') (hz : ys.length <= sizeLine) (t : Nat) :
  Inv X pins σ (upd H p (.lst ys)) { s with heap := s.heap.update p f, toks := t } := by
 have e : (s.heap.update p f).get? p = some { cls := .type "list", data := .seq its'.toArray n' } := by
  rw [Heap.get?_update_self f ho (by rw [hf] <;> rfl), hf]
 refine I.write (x := p) (e := p) (by rw [h]; trivial) (.inl rfl) (fun b u hb q => (Heap.get?_update_other _ _ (Ne.symm hb)).trans q) ⟨_, e⟩ ?_
 exact ⟨hz, its', n', r, e⟩
def vh : V -> V -> V -> Hp -> (Hp -> Prop) -> Prop := fun o i v H Q => ∃ p xs k j, o = .ref p /\ i = .int k /\ H p = some (.lst xs) /\ ixN xs.length k = some j /\ Q (upd H p (.lst (xs.set j v)))
theorem pS : vn X vh := by
 intro pins s σ H o i v ov iv u Q I ro ri rv h
 obtain ⟨p, xs, k, j, rfl, rfl, hp, hj, q⟩ := h
 cases ro
 obtain ⟨t, rfl⟩ := ri
 obtain ⟨its, n, r, ho, hz⟩ := I.lst hp
 obtain ⟨h1, h2, h3, h4⟩ := nq hj
 have hl := r.length
 have hn := gN
 have I' : Inv X pins σ (upd H p (.lst (xs.set j v))) { s with heap := s.heap.update p (Obj.mapSeq (·.setIfInBounds j u)) } :=
  I.lstUpd hp ho (mP its n j u) (r.set rv j) (by rw [List.length_set]; exact hz) s.toks
 by_cases h0 : 0 <= k
 ·have hk : k.toNat = j := by
   rw [seqIndex_of h0 h4] at h1
   exact Option.some.inj h1
  exact PySem.W.ki_setAt ho h0 (by omega) (by rw [List.size_toArray, <- hl]; exact h4) (by rw [hk]; exact ⟨_, I', q⟩)
 ·have hk : (k + (its.toArray.size : Int)).toNat = j := by
   rw [seqIndex_neg (by omega) h3] at h1
   rw [List.size_toArray, <- hl]
   exact Option.some.inj h1
  exact PySem.W.ki_setBack ho (by omega) (by rw [List.size_toArray, <- hl]; exact h3) (by omega) (by rw [hk]; exact ⟨_, I', q⟩)
theorem ka (lo hi : Option Int) (n : Nat) : (sliceBounds lo hi none n).1 = ((HT.sIx n 0 lo : Nat) : Int) /\ (sliceBounds lo hi none n).2.1 = ((HT.sIx n n hi : Nat) : Int) /\ (sliceBounds lo hi none n).2.2 = 1 := by
 refine ⟨?_, ?_, rfl⟩
 ·cases lo with
  | none => simp [sliceBounds, HT.sIx]
  | some i =>
   simp only [sliceBounds, HT.sIx, Option.getD_none, show (1 : Int) > 0 by decide, if_true]
   by_cases h : i < 0
   ·simp only [h, if_true] <;> omega
   ·simp only [h, if_false] <;> omega
 ·cases hi with
  | none => simp [sliceBounds, HT.sIx]
  | some i =>
   simp only [sliceBounds, HT.sIx, Option.getD_none, show (1 : Int) > 0 by decide, if_true]
   by_cases h : i < 0
   ·simp only [h, if_true] <;> omega
   ·simp only [h, if_false] <;> omega
theorem iC (its : List Value) (lo hi : Option Int) : slicePick its.toArray lo hi none = ((its.drop (HT.sIx its.length 0 lo)).take (HT.sIx its.length its.length hi - HT.sIx its.length 0 lo)).toArray := by
 obtain ⟨h1, h2, h3⟩ := ka lo hi its.toArray.size
 unfold slicePick
 rw [h1, h2, h3]
 simp only [sliceRange_one, pick_run, List.size_toArray] <;> rfl
def vo (K : PySem.W.Frag) : V -> Option Int -> Option Int -> Hp -> VK -> Prop := fun x lo hi H Q => ∃ a xs, x = .ref a /\ SqL K H a xs /\ ∀ p, H p = none -> Q (.ref p) (upd H p (.lst (cG xs lo hi)))
theorem nr : SlR X (vo X.K) := by
 intro pins s σ H x v vl vu lo hi sl Q I rx hs pl pu h
 obtain ⟨a, xs, rfl, hx, q⟩ := h
 cases rx
 obtain ⟨its, r, ht, hz⟩ := I.list hx
 have hlen := r.length
 refine ⟨"list", _, slot_list_getitem.lookup, ht.isList.typeIs, ?_⟩
 refine wpAny_getItem_list_slice ht.isList hs pl pu .none (by simp) ?_ (by rw [List.size_toArray] <;> omega)
 rw [iC, <- hlen]
 refine ⟨.ref s.heap.objs.size, _, I.laid (t' := s.toks) (o := .lst (cG xs lo hi)) (fun b ob q => Heap.get?_push_of_some _ q) (Nat.le_refl _) ?_, rfl, q _ (I.hok.fresh (Nat.le_refl _))⟩
 exact ⟨Nat.le_trans (dS xs lo hi) hz, _, 0, (r.drop (HT.sIx xs.length 0 lo)).take (HT.sIx xs.length xs.length hi - HT.sIx xs.length 0 lo), Heap.get?_push_size _ rfl⟩
theorem cH : cA X (.builtin "len") (fun xs H Q => ∃ p ys, xs = [.ref p] /\ (SqL X.K H p ys \/ SqT X.K H p ys) /\ Q (.int ys.length) H) := by
 intro pins s σ H xs us Q I r h
 obtain ⟨p, ys, rfl, hq, q⟩ := h
 obtain ⟨u, rfl, rx⟩ := cT r
 cases rx
 have hn := gN
 rcases hq with hq | hq
 ·obtain ⟨its, r', pl, hz⟩ := I.list hq
  have hlen := r'.length
  exact Calls.call_len_list pl.isList (by simp only [List.size_toArray] <;> omega) ⟨.int ys.length, H, I.tok _, ⟨s.toks + 1, by rw [List.size_toArray, hlen]⟩, q⟩
 ·obtain ⟨its, r', pl, hz⟩ := I.tuple hq
  have hlen := r'.length
  exact len_tuple pl (by simp only [List.size_toArray] <;> omega) ⟨.int ys.length, H, I.tok _, ⟨s.toks + 1, by rw [List.size_toArray, hlen]⟩, q⟩
theorem jk : cA X (.type "list") (fun xs H Q => ∃ p ys, xs = [.ref p] /\ (SqL X.K H p ys \/ SqT X.K H p ys) /\ ∀ l, H l = none -> Q (.ref l) (upd H l (.lst ys))) := by
 intro pins s σ H xs us Q I r h
 obtain ⟨p, ys, rfl, hq, q⟩ := h
 obtain ⟨u, rfl, rx⟩ := cT r
 cases rx
 have fin : ∀ (its : List Value), aF ys its -> ys.length <= sizeLine -> ∀ (h' : Heap) (c' : Nat), (∀ b o', s.heap.get? b = some o' -> h'.get? b = some o') ->
   h'.get? s.heap.objs.size = some { cls := .type "list", dict := none, data := .seq its.toArray c', slots := #[] } -> EP X pins σ Q (.ref s.heap.objs.size) { s with heap := h' } := fun its r' hz h' c' kp e =>
  ⟨.ref s.heap.objs.size, _, I.laid (t' := s.toks) kp (Nat.le_refl _) (show aU X.prog X.w _ h' _ (.lst ys) from ⟨hz, its, c', r', e⟩), rfl, q _ (I.hok.fresh (Nat.le_refl _))⟩
 rcases hq with hq | hq
 ·obtain ⟨its, r', pl, hz⟩ := I.list hq
  have hlen := r'.length
  obtain ⟨o, ho, hc, n, hd⟩ := pl.isList
  exact call_list_seq p (.inl rfl) ho hc hd (fun h' c' kp e => fin its r' hz h' c' kp e) (by simp only [List.size_toArray] <;> omega)
 ·obtain ⟨its, r', pl, hz⟩ := I.tuple hq
  have hlen := r'.length
  obtain ⟨o, ho, hc, n, hd⟩ := pl
  exact call_list_seq p (.inr rfl) ho hc hd (fun h' c' kp e => fin its r' hz h' c' kp e) (by simp only [List.size_toArray] <;> omega)
theorem bj : cA X (.type "tuple") (fun xs H Q => ∃ p ys, xs = [.ref p] /\ ((SqL X.K H p ys /\ ∀ l, H l = none -> Q (.ref l) (upd H l (.tup ys))) \/ (SqT X.K H p ys /\ Q (.ref p) H))) := by
 intro pins s σ H xs us Q I r h
 obtain ⟨p, ys, rfl, h⟩ := h
 obtain ⟨u, rfl, rx⟩ := cT r
 cases rx
 rcases h with ⟨hq, q⟩ | ⟨hq, q⟩
 ·obtain ⟨its, r', pl, hz⟩ := I.list hq
  have hlen := r'.length
  refine call_tuple_list pl.isList (fun h' kp => ?_) (by simp only [List.size_toArray] <;> omega)
  have I1 : Inv X pins σ H { s with heap := h' } := I.kept (t' := s.toks) kp
  have I2 : Inv X pins σ (upd H h'.objs.size (.tup ys)) { s with heap := h'.push { cls := .type "tuple", data := .seq its.toArray } } :=
   I1.laid (t' := s.toks) (fun b o e => Heap.get?_push_of_some _ e) (Nat.le_refl _) (show aU X.prog X.w _ _ _ (.tup ys) from ⟨hz, its, r', IsTup.new _ _, NoD.new _ rfl⟩)
  exact ⟨.ref h'.objs.size, _, I2, rfl, q _ (I1.hok.fresh (Nat.le_refl _))⟩
 ·obtain ⟨its, r', pl, hz⟩ := I.tuple hq
  exact call_tuple_same pl ⟨.ref p, H, I, rfl, q⟩
def tyV (K : PySem.W.Frag) (T : String) (x : V) (H : Hp) : Prop := match x with
 | .str _ => T = "str"
 | .int _ => T = "int"
 | .ref p => (T = "list" /\ ∃ xs, SqL K H p xs) \/ (T = "tuple" /\ ∃ o, K.lookup p = some o /\ o.cls = .type "tuple" /\ o.dict = none) \/
   (T = "dict" /\ ((∃ kvs, H p = some (.dK kvs)) \/ ∃ kvs, H p = some (.dT kvs))) \/ (T = "set" /\ ∃ S n, H p = some (.set S n))
 | _ => False
theorem qF {pins : List (Addr × Obj)} {σ : St} {H : Hp} {s : Shared} {T : String} {x : V} {v : Value} (I : Inv X pins σ H s) (r : aR x v) (ty : tyV X.K T x H) :
  s.TypeIs v T /\ ∀ a, v = .ref a -> ∃ ob, s.heap.get? a = some ob /\ ob.dict = none := by
 cases x with
 | str z =>
  obtain ⟨t, rfl⟩ := r
  cases (show T = "str" from ty)
  exact ⟨typeIs_str s z t, fun _ e => nomatch e⟩
 | int i =>
  obtain ⟨t, rfl⟩ := r
  cases (show T = "int" from ty)
  exact ⟨typeIs_int s i t, fun _ e => nomatch e⟩
 | ref p =>
  cases r
  rcases ty with ⟨rfl, xs, hq⟩ | ⟨rfl, o, hk, hc, hd⟩ | ⟨rfl, hk⟩ | ⟨rfl, S, n, hk⟩
  ·obtain ⟨its, _, pl, _⟩ := I.list hq
   refine ⟨pl.isList.typeIs, fun a e => ?_⟩
   cases e
   obtain ⟨o, n, e, c, hd, _⟩ := pl
   exact ⟨o, e, hd⟩
  ·refine ⟨⟨o, I.kIn p o hk, hc⟩, fun a e => ?_⟩
   cases e
   exact ⟨o, I.kIn _ o hk, hd⟩
  ·have z : ∃ o, s.heap.get? p = some o /\ o.ExactDict := by
    rcases hk with ⟨kvs, hk⟩ | ⟨kvs, hk⟩
    ·obtain ⟨_, _, _, _, o, _, _, e, ex, _⟩ := I.hok p _ hk
     exact ⟨o, e, ex⟩
    ·obtain ⟨_, _, _, _, o, _, _, e, ex, _⟩ := I.hok p _ hk
     exact ⟨o, e, ex⟩
   obtain ⟨o, e, ex⟩ := z
   refine ⟨⟨o, e, ex.1⟩, fun a e2 => ?_⟩
   cases e2
   exact ⟨o, e, ex.2.1⟩
  ·obtain ⟨o, _, _, _, e, ex, _⟩ := I.hok p _ hk
   refine ⟨⟨o, e, ex.1⟩, fun a e2 => ?_⟩
   cases e2
   exact ⟨o, e, ex.2.1⟩
 | _ => exact False.elim ty
def vW (K : PySem.W.Frag) (T : String) (r : V -> List V -> Hp -> VK -> Prop) (to : TE) : TE := fun σ H Q => to σ H fun x H1 => tyV K T x H1 /\ r x [] H1 Q
def tBM (K : PySem.W.Frag) (T : String) (r : V -> List V -> Hp -> VK -> Prop) (to : TE) (t : TA) : TE := fun σ H Q => to σ H fun x H1 => tyV K T x H1 /\ t σ H1 fun xs H2 => r x xs H2 Q
variable {o e : Expr} {es : List Expr} {to : TE} {t : TA} {name : Str} {apos cpos : Pos} {T id : String} {r : V -> List V -> Hp -> VK -> Prop}
theorem jE (pa : PlainAttrs T) (slot : Slot T name id) (hty : typeOf (.builtin id) = pure (.type "method_descriptor")) (hm : MtR X id r) (ho : PE X o to)
  (hbase : attributeBase o name X.env (eval o X.env) = eval o X.env := by rfl) (hline : (apos.endLine == cpos.line) = true := by rfl) : PE X (.Call (.Attribute o name apos) [] [] cpos) (vW X.K T r to) := by
 intro pins s σ H Q I h
 refine wpAny_Call_method0_late hbase hline (thn (ho pins s σ H _ I h) fun v s1 ⟨x, H1, I1, r1, ty, q1⟩ => ?_)
 obtain ⟨h1, h2⟩ := qF I1 r1 ty
 exact ⟨T, id, pa, slot, hty, h1, h2, Calls.callWith_builtin rfl (PySem.evalArgs_none (hm pins s1 σ H1 x [] v [] Q I1 r1 .nil q1))⟩
theorem gr (pa : PlainAttrs T) (slot : Slot T name id) (hty : typeOf (.builtin id) = pure (.type "method_descriptor")) (hm : MtR X id r) (ho : PE X o to) (ha : PA X (e :: es) t)
  (hbase : attributeBase o name X.env (eval o X.env) = eval o X.env := by rfl)
  (hfew : ((backTo cpos (starEach (e :: es) X.env)).all (fun x => !x.1) && (backToKw cpos (keywordEach [] X.env)).all (fun x => x.1.isSome)
   && decide ((e :: es).length + ([] : List Keyword).length + (if ([] : List Keyword).isEmpty then 0 else 1) < 30)) = true := by rfl)
  (hline : (apos.endLine == cpos.line) = true := by rfl) (hs : starEach (e :: es) X.env = (false, eval e X.env) :: starEach es X.env := by rfl) (hplain : (backTo cpos (starEach es X.env)).any (·.1) = false := by rfl) :
  PE X (.Call (.Attribute o name apos) (e :: es) [] cpos) (tBM X.K T r to t) := by
 intro pins s σ H Q I h
 refine wpAny_Call_method_late hbase hfew hline rfl (thn (ho pins s σ H _ I h) fun v s1 ⟨x, H1, I1, r1, ty, q1⟩ => ?_)
 obtain ⟨h1, h2⟩ := qF I1 r1 ty
 refine ⟨T, id, pa, slot, hty, h1, h2, ?_⟩
 have hA := ha cpos pins s1 σ H1 _ I1 q1
 rw [hs] at hA ⊢
 refine Calls.callWith_builtin (by show (false || (backTo cpos (starEach es X.env)).any (·.1)) = false; rw [hplain] <;> rfl) (Calls.evalArgs_plain ?_)
 exact thn hA fun us s2 ⟨vs, H2, I2, r2, q2⟩ => hm pins s2 σ H2 x vs v us Q I2 r1 r2 q2
end
def MtM (X : Cx) (id : String) (r : V -> List V -> Hp -> VK -> Prop) : Prop :=
 ∀ (pins : List (Addr × Obj)) (s : Shared) (σ : St) (H : Hp) (x : V) (xs : List V) (v : Value) (us : List Value) (Q : VK), Inv X pins σ H s -> aR x v -> aF xs us -> r x xs H Q ->
  wpAny (model X.prog X.w) X.A (call (.builtin id) (v :: us)) (EP X pins σ Q) X.xe s
theorem aF.one : ∀ {x : V} {us : List Value}, aF [x] us -> ∃ u, us = [u] /\ aR x u
 | _, _, .cons r .nil => ⟨_, rfl, r⟩
theorem aF.zero : ∀ {us : List Value}, aF [] us -> us = []
 | _, .nil => rfl
theorem aF.dropLast {xs : List V} {us : List Value} (h : aF xs us) : aF xs.dropLast us.dropLast := by
 induction h with
 | nil => exact .nil
 | cons r t ih =>
  cases t with
  | nil => exact .nil
  | cons q t' => exact .cons r ih
theorem mw {α : Type} (l : List α) : l.eraseIdx (l.length - 1) = l.dropLast := by
 induction l with
 | nil => rfl
 | cons a r ih =>
  cases r with
  | nil => rfl
  | cons b r =>
   have e : (a :: b :: r).length - 1 = ((b :: r).length - 1) + 1 := by
    have h1 : (a :: b :: r).length = r.length + 2 := rfl
    have h2 : (b :: r).length = r.length + 1 := rfl
    omega
   rw [e, List.eraseIdx_cons_succ, ih]
   all_goals rfl
section
variable {X : Cx} {pins : List (Addr × Obj)} {σ : St} {H : Hp} {s : Shared} {l b : Addr} {xs ys zs : List V}
theorem Inv.lset {its its' : List Value} {n : Nat} {f : Array Value -> Array Value} {t' : Nat} (I : Inv X pins σ H s) (hH : H l = some (.lst xs))
  (e : s.heap.get? l = some { cls := .type "list", data := .seq its.toArray n }) (hf : f its.toArray = its'.toArray) (hv : aF ys its') (hz : ys.length <= sizeLine) :
  Inv X pins σ (upd H l (.lst ys)) { s with heap := s.heap.update l (Obj.mapSeq f), toks := t' } := by
 have q := PySem.IsL.update e f
 rw [hf] at q
 refine I.write (x := l) (e := l) (by rw [hH]; exact trivial) (.inl rfl) (fun b' u hb hu => (Heap.get?_update_other s.heap (Obj.mapSeq f) (Ne.symm hb)).trans hu) ⟨_, q⟩ ?_
 exact ⟨hz, its', _, hv, q⟩
theorem Inv.lnew {its : List Value} {t' : Nat} (I : Inv X pins σ H s) (hv : aF ys its) (hz : ys.length <= sizeLine) :
  Inv X pins σ (upd H s.heap.objs.size (.lst ys)) { s with heap := s.heap.push { cls := .type "list", data := .seq its.toArray }, toks := t' } :=
 I.laid (fun _ _ q => Heap.get?_push_of_some _ q) (Nat.le_refl _) ⟨hz, its, 0, hv, Heap.get?_push_size _ rfl⟩
theorem Inv.fresh (I : Inv X pins σ H s) : H s.heap.objs.size = none := I.hok.fresh (Nat.le_refl _)
theorem Inv.lstM (I : Inv X pins σ H s) (hH : H l = some (.lst xs)) : xs.length <= sizeLine /\ ∃ (its : List Value) (n : Nat), aF xs its /\ xs.length = its.length /\ s.heap.get? l = some { cls := .type "list", data := .seq its.toArray n } := by
 obtain ⟨z, its, n, r, e⟩ := I.hok l _ hH
 exact ⟨z, its, n, r, r.length, e⟩
theorem qk {n : Nat} (h : n <= sizeLine) : Builtin.List.listTooLong n = false := by
 unfold Builtin.List.listTooLong
 exact decide_eq_false (by omega)
end
section
variable {X : Cx}
def nN : V -> List V -> Hp -> VK -> Prop := fun x vs H Q => ∃ l xs y, x = .ref l /\ vs = [y] /\ H l = some (.lst xs) /\ xs.length < sizeLine /\ Q .non (upd H l (.lst (xs ++ [y])))
theorem ck : MtM X "list.append" nN := by
 intro pins s σ H x vs v us Q I rx rv h
 obtain ⟨l, xs, y, rfl, rfl, hH, hz, q⟩ := h
 cases rx
 obtain ⟨u, rfl, ru⟩ := rv.one
 obtain ⟨z, its, n, r, hl, e⟩ := I.lstM hH
 refine call_meets F.slot_list_append ⟨_, e, rfl⟩ F.entry_list_append (F.args_list_append_2 _ _) (PySem.list_append l its.toArray n u (by rw [List.size_toArray]; omega)) ⟨e, ?_⟩
 refine ⟨.non, _, I.lset (its' := its ++ [u]) hH e (by simp) (r.append (.cons ru .nil)) ?_, rfl, q⟩
 rw [List.length_append, List.length_singleton]
 omega
def sH : V -> List V -> Hp -> VK -> Prop := fun x vs H Q => ∃ l b xs zs, x = .ref l /\ vs = [.ref b] /\ H l = some (.lst xs) /\ H b = some (.lst zs) /\ xs.length + zs.length <= sizeLine /\ Q .non (upd H l (.lst (xs ++ zs)))
theorem pc : MtM X "list.extend" sH := by
 intro pins s σ H x vs v us Q I rx rv h
 obtain ⟨l, b, xs, zs, rfl, rfl, hH, hB, hz, q⟩ := h
 cases rx
 obtain ⟨u, rfl, ru⟩ := rv.one
 cases ru
 obtain ⟨z, its, n, r, hl, e⟩ := I.lstM hH
 obtain ⟨z2, its2, n2, r2, hl2, e2⟩ := I.lstM hB
 have hsz : its.toArray.size + its2.toArray.size <= sizeLine := by rw [List.size_toArray, List.size_toArray]; omega
 have hlong : ¬ (!its.toArray.isEmpty && Builtin.List.listTooLong (its.toArray.size + its2.toArray.size)) = true := by
  rw [qk hsz, Bool.and_false]
  exact Bool.false_ne_true
 refine call_meets F.slot_list_extend ⟨_, e, rfl⟩ F.entry_list_extend (F.args_list_extend_2 _ _)
  (AutoSeq1.list_extend_list_list_0 l its.toArray n b its2.toArray n2 hlong (by rw [List.size_toArray]; omega) (by omega)) ⟨e, e2, ?_⟩
 refine ⟨.non, _, I.lset (its' := its ++ its2) hH e (by simp) (r.append r2) ?_, rfl, q⟩
 rw [List.length_append]
 omega
def wG : V -> List V -> Hp -> VK -> Prop := fun x vs H Q => ∃ l xs y, x = .ref l /\ vs = [] /\ H l = some (.lst xs) /\ xs[xs.length - 1]? = some y /\ Q y (upd H l (.lst xs.dropLast))
theorem ud : MtM X "list.pop" wG := by
 intro pins s σ H x vs v us Q I rx rv h
 obtain ⟨l, xs, y, rfl, rfl, hH, hy, q⟩ := h
 cases rx
 have hus := rv.zero
 subst hus
 obtain ⟨z, its, n, r, hl, e⟩ := I.lstM hH
 obtain ⟨u, hu, ru⟩ := r.get hy
 have hy' : its.toArray[its.toArray.size - 1]? = some u := by
  show its.toArray[its.length - 1]? = some u
  rw [<- Array.getElem?_toList, <- hl]
  exact hu
 refine call_meets F.slot_list_pop ⟨_, e, rfl⟩ F.entry_list_pop (F.args_list_pop_1 _) (MeetsSeq.list_pop_last l its.toArray n u hy' (by rw [List.size_toArray]; omega)) ⟨e, ?_⟩
 refine ⟨y, _, I.lset (its' := its.dropLast) hH e ?_ r.dropLast ?_, ru, q⟩
 ·show its.toArray.eraseIdxIfInBounds (its.toArray.size - 1) = its.dropLast.toArray
  rw [List.size_toArray, List.eraseIdxIfInBounds_toArray, mw]
 ·rw [List.length_dropLast]
  omega
def uu : V -> List V -> Hp -> VK -> Prop := fun x vs H Q => ∃ l xs, x = .ref l /\ vs = [] /\ H l = some (.lst xs) /\ Q .non (upd H l (.lst []))
theorem qv : MtM X "list.clear" uu := by
 intro pins s σ H x vs v us Q I rx rv h
 obtain ⟨l, xs, rfl, rfl, hH, q⟩ := h
 cases rx
 have hus := rv.zero
 subst hus
 obtain ⟨z, its, n, r, hl, e⟩ := I.lstM hH
 refine call_meets F.slot_list_clear ⟨_, e, rfl⟩ F.entry_list_clear (F.args_list_clear_1 _) (AutoSeq1.list_clear_list_0 l its.toArray n (by rw [List.size_toArray]; omega)) ⟨e, ?_⟩
 exact ⟨.non, _, I.lset (its' := []) (ys := []) hH e rfl .nil (Nat.zero_le _), rfl, q⟩
end
section
variable {prog : Program} {w : World} {A : Around} {E : Value -> Shared -> Prop} {s : Shared}
end
section
variable {X : Cx}
end
end L2
namespace Att
open PySem PySem.W PySem.Calls PyProof.Rows
theorem gz {P : Params} {h : Heap} : ∀ (ns : List Int) (vs : List Value), WellAll P h vs (ns.map WData.int) -> IntsAre vs ns := by
 intro ns
 induction ns with
 | nil =>
  intro vs w
  rw [List.map_nil] at w
  cases w
  exact .nil
 | cons n ns ih =>
  intro vs w
  rw [List.map_cons] at w
  cases w with
  | cons a b =>
   cases a
   exact .cons _ _ (ih _ b)
theorem oH {l : OpenLaw} {n : Nat} (hn : l.most = some n) {P : Params} {h : Heap} {args : List WData} {vals : List Value}
  (hpre : l.row.toRowW.claim.pre args = true) (hwl : WellAll P h vals args) :
  ∃ a vs ns, vals = [Value.ref a] /\ args = [WData.list (ns.map WData.int)] /\ h.get? a = some { cls := .type "list", data := .seq vs.toArray } /\ IntsAre vs ns /\ ns.length <= n := by
 have hsh : WShape.hasAll [] args [.list .int] = true := (pre_splitW hpre).1
 have hc : l.pre.holds [] { args := args } = true := (pre_splitW hpre).2
 obtain ⟨d, r, rfl, h1, h2⟩ := hasAllW_cons hsh
 obtain rfl := hasAllW_nil h2
 obtain ⟨xs, rfl, h3⟩ := hasW_list h1
 obtain ⟨ns, rfl⟩ := items_int h3
 have hlen : ns.length <= n := by
  unfold OpenLaw.pre at hc
  have h4 : (WTm.not (.lt (.lit (.int (n : Int))) (.len (.arg 0)))).holds [] { args := [.list (ns.map .int)] } = true := by
   have h4 := (holds_andW hc).1
   rw [hn] at h4
   exact h4
  have h5 := condW_of h4 (w_not (w_lt w_lit (w_len_list (w_arg rfl))))
  rw [List.length_map] at h5
  refine Nat.le_of_not_lt fun q => ?_
  have q' : (n : Int) < ((ns.length : Nat) : Int) := by omega
  first
   | (rw [decide_eq_true q'] at h5; exact absurd h5 (by decide))
   | (simp at h5; omega)
 cases hwl with
 | cons w1 w2 =>
  cases w2
  cases w1 with
  | list ho hall => exact ⟨_, _, ns, rfl, rfl, ho, gz ns _ hall, hlen⟩
theorem oD (l : OpenLaw) (args : List WData) : l.row.toRowW.claim.post args (.bool true) args = true :=
 postW_of (r := l.row.toRowW) (X := (true == true))
  (show WShape.has [] (.bool true) .bool = true by first | rfl | decide | simp [WShape.has, WShape.arms, WShape.armsAll])
  (show (WTm.eq .res (.lit (.bool true))).value [] { args := args, res := some (.bool true), after := args } = some (.bool (true == true)) from w_eq_bool (w_res rfl) w_lit) rfl
theorem attach_call {l : OpenLaw} {n : Nat} {q : Program} {loose : List Str} {XP : (Str -> Option Value) -> Heap -> Prop} {YP : World -> Heap -> Prop} {d : DefRec}
  (hn : l.most = some n) (hdf : d.params.defaults = [])
  (call : ∀ (w : World) (s₀ s₁ : Shared) (mg mb : Str -> Option Value) (fa : Addr) (o : Obj) (pm cd doc : Value) (a : Addr) (vs : List Value) (ns : List Int),
   Ground q loose [] XP w s₀ mg mb s₁.heap -> YP w s₁.heap ->
   s₁.heap.get? fa = some o -> o.data = .func (docDef d.name d.params d.body d.scope pm cd doc) -> s₁.heap.CodeRec cd d.name -> mg d.name = some (.ref fa) ->
   s₁.heap.get? a = some { cls := .type "list", data := .seq vs.toArray } -> IntsAre vs ns -> ns.length <= n -> s₁.gens = #[] ->
   codeAny (model l.prog w) callerA (.call (.ref fa) ⟨[.ref a], []⟩) (fun r s' => r = .ok (.ret (.bool true)) /\ OldK s₁.heap s'.heap /\ s'.os = s₁.os /\ AllBare s'.gens) s₁) :
  WalkO q loose XP YP l.row.toRowW d [] (fun f vs => PySem.call f vs) := by
 intro w s₀ s₁ mg mb G Y fa o pm cd doc dV kV ho hd hcd hD hmg hg args vals as hpre hlay hrd hwl hlo
 obtain rfl : dV = .none := Dflts.none hD hdf
 obtain rfl : kV = .none := Dflts.noKw hD
 obtain ⟨a, vs, ns, rfl, rfl, hobj, hints, hlen⟩ := oH hn hpre hwl
 refine enter_call (codeAny_mono (call w s₀ s₁ mg mb fa o pm cd doc a vs ns G Y ho (fd_plain hd) hcd hmg hobj hints hlen hg) fun r s' hq => ?_)
 obtain ⟨rfl, h2, h3, h4⟩ := hq
 exact ⟨.inl ⟨.bool true, .bool true, [], rfl, fun _ => rfl, .bool true, oD l _, fun _ => ⟨List.Pairwise.nil, fun _ hm => (nomatch hm)⟩⟩, h2, h3, h4⟩
section
variable {prog : Program} {w : World} {A : Around} {E : Value -> Shared -> Prop} {s : Shared} {K : Frag}
def noObjs (h : Heap) : Heap := { h with objs := #[] }
theorem noObjs_get (h : Heap) (b : Addr) : (noObjs h).get? b = none := by
 cases e : (noObjs h).get? b with
 | none => rfl
 | some o => exact absurd (Heap.lt_size e) (Nat.not_lt_zero _)
theorem fr_all {h : Heap} {L : Addr} {m : Str -> Option Value} (n : h.Ns L m) : Fr (noObjs h) L h m :=
 ⟨n, fun b o e => (by rw [noObjs_get] at e; cases e), Nat.zero_le _⟩
end
end Att
namespace L2
open PySem PySem.Spec PyProof.Rows
theorem iK : ∀ {vs : List Value} {ns : List Int}, IntsAre vs ns -> aF (ns.map V.int) vs
 | _, _, .nil => .nil
 | _, _, .cons n t h => .cons ⟨t, rfl⟩ (iK h)
def uU (H : Hp) : Prop := ∀ b, H b = none \/ ∃ o xs, H b = some (.frz o (.lst xs))
theorem qt {P : Program} {w : World} {K : PySem.W.Frag} {mg mb : Str -> Option Value} {CX : CXT} {k : Nat} {fa a : Addr} {fd : FuncData} {x : Str} {sp : Sp} {s₁ : Shared} {vs : List Value} {ns : List Int}
  (KX : K.In s₁.heap) (hns : s₁.heap.Ns mainGlobals mg) (hb : s₁.heap.Ns builtinsNs mb) (hbb : ∀ x : Str, x ≠ "__name__" -> mb x = bootBuiltins x) (hlim : s₁.heap.NoLimit) (hg : s₁.gens = #[])
  (ha : s₁.heap.get? a = some { cls := .type "list", data := .seq vs.toArray }) (hi : IntsAre vs ns) (hl : ns.length <= sizeLine) (hr : dj k callerA)
  (F : ∀ base : Heap, K.In base -> base.Ns mainGlobals mg -> bg P w K mg base CX k fa fd [x] sp) (hbind : ∀ (s : Shared) (u : Value), BindsTo s fd ⟨[u], []⟩ [(x, u)])
  (hsp : ∀ H : Hp, uU H -> SqL K H a (ns.map V.int) -> sp [.ref a] H (fun v _ => v = .bl true) fun _ _ _ => False)
  (hCX : ∀ H e s', CX [] H s₁ (fun _ _ _ => False) e s' -> False) :
  codeAny (model P w) callerA (.call (.ref fa) ⟨[.ref a], []⟩) (fun r s' => r = .ok (.ret (.bool true)) /\ OldK s₁.heap s'.heap /\ s'.os = s₁.os /\ AllBare s'.gens) s₁ := by
 have rv := iK hi
 have lenV := hi.length
 have core : ∀ H : Hp, uU H -> SqL K H a (ns.map V.int) -> HOk P w H s₁.heap -> (∀ b, H b ≠ none -> b = a) -> (H a ≠ none -> K.lookup a = none) ->
   codeAny (model P w) callerA (.call (.ref fa) ⟨[.ref a], []⟩) (fun r s' => r = .ok (.ret (.bool true)) /\ OldK s₁.heap s'.heap /\ s'.os = s₁.os /\ AllBare s'.gens) s₁ := by
  intro H hO hS hok hA hK
  have base_of : ∀ {b : Addr} {o : Obj}, s₁.heap.get? b = some o -> H b = none -> (kw s₁.heap H).get? b = some o := fun e n => qp e n
  have noA : ∀ {b : Addr} {o : Obj} {es : Array DictEntry} {ep : Nat}, s₁.heap.get? b = some o -> o.data = .dict es ep -> H b = none := fun {b o es ep} e d => by
   cases q : H b with
   | none => rfl
   | some u =>
    have e' : b = a := hA b (by rw [q]; simp)
    subst e'
    rw [ha] at e; cases e
    have d' : Data.seq vs.toArray _ = Data.dict es ep := d
    cases d'
  have nsK : ∀ {b : Addr} {m : Str -> Option Value}, s₁.heap.Ns b m -> (kw s₁.heap H).Ns b m := fun {b m} ⟨o, es, ep, e, d, r⟩ => ⟨o, es, ep, base_of e (noA e d), d, r⟩
  have hKb : K.In (kw s₁.heap H) := fun b o e => base_of (KX b o e) (by
   cases q : H b with
   | none => rfl
   | some u =>
    have e' : b = a := hA b (by rw [q]; simp)
    subst e'
    rw [hK (by rw [q]; simp)] at e; cases e)
  have hM : Mod K mg (kw s₁.heap H) := ⟨hKb, nsK hns, ⟨mb, nsK hb, hbb⟩, let ⟨mc, h1, h2⟩ := hlim; ⟨mc, nsK h1, h2⟩⟩
  have e0 : sU P w K mg (kw s₁.heap H) callerA [] s₁ H := ⟨rfl, hM, fun b o e => rP e, Nat.le_of_eq (oR _ _), trivial, fun b hb => absurd (show b ∈ ([] : List Addr) from hb) (by simp), hok, .of_eq hg⟩
  refine codeAny_mono ((F _ hKb (nsK hns)).run callerA [] s₁ H ⟨[.ref a], []⟩ [.ref a] [.ref a] _ _ hr e0 (hbind s₁ (.ref a)) (.cons rfl .nil) (hsp H hO hS)) fun r s' h => ?_
  cases r with
  | error e => exact (hCX H e s' h).elim
  | ok fl =>
   cases fl with
   | next => exact False.elim h
   | brk => exact False.elim h
   | cont => exact False.elim h
   | ret u =>
    obtain ⟨v, H', os, bare, un, hok', r', q⟩ := h
    have q' : v = .bl true := q
    subst q'
    obtain rfl : u = Value.bool true := r'
    refine ⟨rfl, OldK.of_keep fun b o e => ?_, os, bare⟩
    cases q : H b with
    | none => exact un.keep b o e q (by intro z; exact absurd (show b ∈ ([] : List Addr) from z) (by simp)) (by simp)
    | some u =>
     rcases hO b with z | ⟨ob, xs, z⟩
     ·rw [q] at z; cases z
     ·have z2 := un.frzs b ob _ z
      obtain ⟨e1, _⟩ := hok b _ z
      obtain ⟨e2, _⟩ := hok' b _ z2
      rw [e] at e1; cases e1
      exact e2
 cases hk : K.lookup a with
 | some o =>
  have e := KX a o hk
  rw [ha] at e
  cases e
  refine core (fun _ => none) (fun _ => .inl rfl) (.inr ⟨_, vs.toArray, _, hk, rfl, rfl, rfl, by rw [List.size_toArray, lenV]; exact hl, by simpa using rv⟩) (fun b u z => by have z' : (none : Option HO) = some u := z; cases z') (fun b z => absurd rfl z) fun z => absurd rfl z
 | none =>
  refine core (fun b => if b = a then some (.frz { cls := .type "list", data := .seq vs.toArray } (.lst (ns.map V.int))) else none) (fun b => ?_) (.inl (.inr ⟨{ cls := .type "list", data := .seq vs.toArray }, if_pos rfl⟩)) (fun b u z => ?_) (fun b z => ?_) fun _ => hk
  ·by_cases hb : b = a
   ·exact .inr ⟨_, _, if_pos hb⟩
   ·exact .inl (if_neg hb)
  ·by_cases hb : b = a
   ·have z' := (if_pos hb).symm.trans z
    cases z'
    subst hb
    exact ⟨ha, by rw [List.length_map]; exact hl, vs, _, rv, ha⟩
   ·have z' := (if_neg hb).symm.trans z
    cases z'
  ·by_cases hb : b = a
   ·exact hb
   ·exact absurd (if_neg hb) z
theorem walk_of {l : PySem.W.OpenLaw} {n k : Nat} {q : Program} {loose : List Str} {XP : (Str -> Option Value) -> Heap -> Prop} {YP : World -> Heap -> Prop} {d : DefRec} {K : Params -> PySem.W.Frag} {CX : World -> CXT} {sp : World -> Sp} {x : Str}
  (hn : l.most = some n) (hn2 : n <= sizeLine) (hdf : d.params.defaults = []) (hr : dj k callerA)
  (hY : ∀ (w : World) (h : Heap), YP w h -> (K w.params).In h)
  (F : ∀ (w : World) (mg : Str -> Option Value) (fa : Addr) (h : Heap), (K w.params).In h -> h.Ns mainGlobals mg -> mg d.name = some (.ref fa) ->
   ∃ fd : FuncData, (∀ (s : Shared) (u : Value), BindsTo s fd ⟨[u], []⟩ [(x, u)]) /\
    ∀ base : Heap, (K w.params).In base -> base.Ns mainGlobals mg -> bg l.prog w (K w.params) mg base (CX w) k fa fd [x] (sp w))
  (hsp : ∀ (w : World) (H : Hp) (a : Addr) (ns : List Int), ns.length <= n -> uU H -> SqL (K w.params) H a (ns.map V.int) -> sp w [.ref a] H (fun v _ => v = .bl true) fun _ _ _ => False)
  (hCX : ∀ (w : World) (H : Hp) (s : Shared) (e : Value) (s' : Shared), CX w [] H s (fun _ _ _ => False) e s' -> False) :
  PySem.W.WalkO q loose XP YP l.row.toRowW d [] (fun f vs => PySem.call f vs) := by
 refine Att.attach_call hn hdf fun w s₀ s₁ mg mb fa o pm cd doc a vs ns G Y ho hd hcd hmg hobj hints hlen hg => ?_
 have KX := hY w _ Y
 obtain ⟨fd, hb, hF⟩ := F w mg fa _ KX G.T.g hmg
 exact qt KX G.T.g G.T.b G.T.builtins G.T.nolimit hg hobj hints (Nat.le_trans hlen hn2) hr hF hb (fun H hO hS => hsp w H a ns hlen hO hS) fun H e s' => hCX w H s₁ e s'
def aK (s : Stmt) : Arguments := match s with
 | .FunctionDef _ a _ _ _ _ _ _ _ _ => a
 | _ => { posonlyargs := [], args := [], vararg := none, kwonlyargs := [], kw_defaults := [], kwarg := none, defaults := [] }
def aH (s : Stmt) : List Stmt := match s with
 | .FunctionDef _ _ b _ _ _ _ _ _ _ => b
 | _ => []
def aj (s : Stmt) : Scope := match s with
 | .FunctionDef _ _ _ _ _ _ sc _ _ _ => sc
 | _ => { kind := .function, names := [], isGenerator := false, isCoroutine := false }
abbrev CX0 : CXT := fun _ _ _ _ _ _ => False
abbrev E0 : XK := fun _ _ _ => False
theorem tL {X : Cx} : mz CX0 X E0 := fun _ _ _ _ _ _ _ h => h.elim
structure Fun (K : PySem.W.Frag) (x qual : Str) (st : Stmt) (f : Addr) (fd : FuncData) : Prop where
 ex : ∃ (oc : Value) (od : Option Addr) (kV doc pm : Value) (an : Option Addr) (cdv ct : Value) (osl : Array (Option Value)),
  fd = PySem.W.fnOf x qual (aK st) (aH st) (aj st) .none kV doc pm an cdv ct /\ K.lookup f = some ⟨oc, od, .func fd, osl⟩ /\ PySem.W.codeIn K cdv qual = true
 kp : PySem.W.keepIn K (.ref f) = true
section
variable {P : Program} {w : World} {K : PySem.W.Frag} {mg : Str -> Option Value} {base : Heap}
theorem Fun.ok {x qual : Str} {st : Stmt} {f : Addr} {fd : FuncData} {N ps : List Str} {k : Nat} {sp : Sp} (F : Fun K x qual st f fd) (S : aP N ps (aj st)) (len : ∀ vs H Q E, sp vs H Q E -> vs.length = ps.length)
  (hbody : ∀ (cdv : Value) (A : Around) (outer : List Env) (s : Shared) (H : Hp) (vs : List V) (Q : VK) (E : XK), dj k (A.deeper (envOfC qual (aj st) s.heap.objs.size f cdv)) -> sp vs H Q E ->
   ∃ t, PSs (oG CX0 P w K mg base N qual (aj st) f cdv A outer s H E).nox (aH st) t /\ t { nx := fun _ H' => Q .non H', rt := Q } (gv N vs) H) : bg P w K mg base CX0 (k + 1) f fd ps sp := by
 obtain ⟨oc, od, kV, doc, pm, an, cdv, ct, osl, rfl, lk, hcd⟩ := F.ex
 refine vz lk hcd S len fun A outer s H vs Q E hr hsp => ?_
 obtain ⟨t, h, q⟩ := hbody cdv A outer s H vs Q E hr hsp
 exact ⟨t, h.nox, q⟩
theorem Fun.binds {x qual : Str} {st : Stmt} {f : Addr} {fd : FuncData} {ps : List Str} (F : Fun K x qual st f fd)
  (h : ∀ (kV doc pm : Value) (an : Option Addr) (cdv ct : Value) (us : List Value), us.length = ps.length -> bindArgs (PySem.W.fnOf x qual (aK st) (aH st) (aj st) .none kV doc pm an cdv ct) ⟨us, []⟩ = pure (ps.zip us)) : gu K fd ps [] := by
 obtain ⟨oc, od, kV, doc, pm, an, cdv, ct, osl, rfl, lk, hcd⟩ := F.ex
 exact .all (h kV doc pm an cdv ct)
theorem bf {x qual : Str} {st : Stmt} {f : Addr} {oc : Value} {od an : Option Addr} {osl : Array (Option Value)} {kV doc pm cdv ct : Value} (l : K.lookup f = some ⟨oc, od, .func (PySem.W.fnOf x qual (aK st) (aH st) (aj st) .none kV doc pm an cdv ct), osl⟩)
  (c : PySem.W.codeIn K cdv qual = true) (k : PySem.W.keepIn K (.ref f) = true) : Fun K x qual st f (PySem.W.fnOf x qual (aK st) (aH st) (aj st) .none kV doc pm an cdv ct) := ⟨⟨oc, od, kV, doc, pm, an, cdv, ct, osl, rfl, l, c⟩, k⟩
end
theorem iU {A : Around} {k : Nat} (hr : dj k A) : A.units + 1 < cLine := Nat.lt_of_le_of_lt (Nat.add_le_add_left (by decide : 1 <= 64) _) hr.units
section
variable {X : Cx}
theorem pv (i : Nat) {x : Str} {pos : Pos} (hN : X.N[i]? = some x := by rfl) (hv : Vis X.env.scope x := by first | exact Or.inl rfl | exact Or.inr (Or.inl rfl) | exact Or.inr (Or.inr rfl)) (hd : (x == ("__debug__" : Str)) = false := by decide)
  (hcd : (x == ("__classdict__" : Str)) = false := by decide) : PE X (.Name x pos) (rS i) := pF hN hv hd hcd
end
theorem eR {A B : Prop} (h : B) : if false = true then A else B := by
 rw [if_neg Bool.false_ne_true]
 exact h
theorem fY {A B : Prop} (h : A) : if true = true then A else B := by
 rw [if_pos rfl]
 exact h
theorem aW {c A B : Prop} [Decidable c] (h1 : c -> A) (h2 : ¬ c -> B) : if c then A else B := by
 by_cases h : c
 ·rw [if_pos h]
  exact h1 h
 ·rw [if_neg h]
  exact h2 h
def az (H H' : Hp) : Prop := ∀ b o, H b = some o -> H' b = some o
theorem az.refl (H : Hp) : az H H := fun _ _ h => h
theorem az.trans {H H1 H2 : Hp} (a : az H H1) (b : az H1 H2) : az H H2 := fun c o h => b c o (a c o h)
theorem az.free {H H' : Hp} (e : az H H') {l : Addr} (h : H' l = Option.none) : H l = Option.none := by
 cases q : H l with
 | none => rfl
 | some o =>
  rw [e l o q] at h
  cases h
theorem az.seq {K : PySem.W.Frag} {H H' : Hp} {a : Addr} {xs : List V} (e : az H H') (h : SqL K H a xs) : SqL K H' a xs := by
 rcases h with (h | ⟨o, h⟩) | h
 ·exact .inl (.inl (e _ _ h))
 ·exact .inl (.inr ⟨o, e _ _ h⟩)
 ·exact .inr h
section
variable {κ : Type} [DecidableEq κ]
end
theorem rW {prog : Program} {w : World} {A : Around} {R : Result -> Shared -> Prop} {s : Shared} {elt target iter : Expr} {ifs : List Expr} {scope : Scope} {pos : Pos} {it acc : Value} {env : Env} (I : Nat -> Shared -> Prop)
  (turn : ∀ n s, I n s -> wpAny (model prog w) A (pyNext it) (fun r s₁ => match r with
   | none => R (.ok .next) s₁
   | some v => wpAny (model prog w) A (letOwnedTupleGo target it v) (fun _ s₁' => wpAny (model prog w) A (assign target env v) (fun _ s₂ =>
     wpAny (model prog w) A (forIn ifs true fun c r => if r = true then do let ok <- isTrue c env (eval c env); pure (ForInStep.yield ok) else pure (ForInStep.yield r)) (fun ok s₃ =>
      if ok = true then wpAny (model prog w) A (eval elt env) (fun x s₄ =>
       wpAny (model prog w) A (call (.builtin "list.append") [acc, x]) (fun _ s₅ => ∃ m, m < n /\ I m s₅) (fun _ _ => False) s₄) (fun _ _ => False) s₃
      else ∃ m, m < n /\ I m s₃) (fun _ _ => False) s₂) (fun _ _ => False) s₁') (fun _ _ => False) s₁) (fun _ _ => False) s)
  (n : Nat) (h : I n s) :
  codeAny (model prog w) A (.compLoop (.ListComp elt [⟨target, iter, ifs, 0⟩] scope pos) 0 it acc env) R s := by
 refine codeAny_loop rfl I (fun n s hI => ?_) n h
 show wpAny _ A ((compTurn (.ListComp elt [⟨target, iter, ifs, 0⟩] scope pos) 0 it acc env).onRaise (fun x => do noteFrame x env; theTreesLotGoes x)) _ _ s
 refine wpAny_noted ?_
 rw [compTurn_list]
 have no : ∀ {E : Value -> Shared -> Prop} (x : Value) (s : Shared), False -> E x s := fun _ _ z => z.elim
 refine wpAny_bind (wpAny_standAt (wpAny_bind (wpAny_mono (turn n s hI) (fun r s₁ h₁ => ?_) no)))
 cases r with
 | none => exact wpAny_pure h₁
 | some v =>
  refine wpAny_bind (wpAny_mono h₁ (fun _ s₁' h₁' => ?_) no)
  refine wpAny_bind (wpAny_mono h₁' (fun _ s₂ h₂ => wpAny_bind (wpAny_mono h₂ (fun ok s₃ h₃ => ?_) no)) no)
  cases ok with
  | false => exact wpAny_pure ⟨rfl, h₃⟩
  | true =>
   exact wpAny_bind (wpAny_bind (wpAny_mono h₃ (fun x s₄ h₄ => wpAny_bind (wpAny_mono h₄ (fun _ s₅ h₅ => wpAny_pure (wpAny_pure ⟨rfl, h₅⟩)) no)) no))
def aZ (env : Env) : List (Str × NameKind) -> List (Str × Addr) -> List (Str × Addr)
 | [], acc => acc
 | (n, k) :: r, acc => if k = .free then aZ env r (match env.cells.lookup n with | some c => (n, c) :: acc | none => acc) else aZ env r acc
theorem lD {env : Env} {scope : Scope} (h : ∀ x ∈ scope.names, x.2 = .free -> ∃ c, env.cells.lookup x.1 = some c) : closureFor scope env = pure (aZ env scope.names []) := by
 have all : ∀ (l : List (Str × NameKind)) (acc : List (Str × Addr)), (∀ x ∈ l, x.2 = NameKind.free -> ∃ c, env.cells.lookup x.1 = some c) ->
   (forIn l acc fun x cs => (do
    if x.2 == NameKind.free then
     let a <- cellOf env x.1
     pure (ForInStep.yield ((x.1, a) :: cs))
    else pure (ForInStep.yield cs) : Sem _)) = pure (aZ env l acc) := by
  intro l
  induction l with
  | nil => intro acc _; rfl
  | cons x r ih =>
   intro acc hl
   obtain ⟨n, k⟩ := x
   have hr := fun y hy => hl y (List.mem_cons_of_mem _ hy)
   rw [List.forIn_cons]
   by_cases hk : k = .free
   ·subst hk
    obtain ⟨c, hc⟩ := hl (n, .free) List.mem_cons_self rfl
    simp only [beq_self_eq_true, if_true, aZ]
    have e : cellOf env n = pure c := by unfold cellOf; rw [show env.cells.lookup n = some c from hc]
    rw [e]
    simp only [pure_bind]
    rw [ih _ hr, show env.cells.lookup n = some c from hc]
   ·have hb : (k == NameKind.free) = false := by simpa using hk
    simp only [hb, Bool.false_eq_true, if_false, aZ, if_neg hk, pure_bind]
    exact ih _ hr
 unfold closureFor
 exact (congrArg (fun t : Sem (List (Str × Addr)) => t >>= pure) (all scope.names [] h)).trans (by simp)
theorem bC {env : Env} : ∀ (l : List (Str × NameKind)) (acc : List (Str × Addr)), (∀ n c, acc.lookup n = some c -> env.cells.lookup n = some c) -> ∀ n c, (aZ env l acc).lookup n = some c -> env.cells.lookup n = some c
 | [], acc, h, n, c, e => h n c e
 | (m, k) :: r, acc, h, n, c, e => by
  unfold aZ at e
  split at e
  ·refine bC r _ ?_ n c e
   intro n' c' e'
   split at e'
   ·rename_i c0 hc0
    rw [List.lookup_cons] at e'
    split at e'
    ·rename_i hb
     have : n' = m := by simpa using hb
     subst this
     cases e'
     exact hc0
    ·exact h n' c' e'
   ·exact h n' c' e'
  ·exact bC r _ h n c e
theorem dI {env : Env} {n : Str} : ∀ (l : List (Str × NameKind)) (acc : List (Str × Addr)), (∃ c, acc.lookup n = some c) -> ∃ c, (aZ env l acc).lookup n = some c
 | [], acc, h => h
 | (m, k) :: r, acc, h => by
  unfold aZ
  split
  ·refine dI r _ ?_
   obtain ⟨c, hc⟩ := h
   split
   ·rw [List.lookup_cons]
    split
    ·exact ⟨_, rfl⟩
    ·exact ⟨c, hc⟩
   ·exact ⟨c, hc⟩
  ·exact dI r _ h
theorem cE {env : Env} {n : Str} (hc : ∃ c, env.cells.lookup n = some c) : ∀ (l : List (Str × NameKind)) (acc : List (Str × Addr)), (n, NameKind.free) ∈ l -> ∃ c, (aZ env l acc).lookup n = some c
 | [], _, h => by cases h
 | (m, k) :: r, acc, h => by
  obtain ⟨c, hc⟩ := hc
  unfold aZ
  rcases List.mem_cons.mp h with e | h
  ·cases e
   rw [if_pos rfl, hc]
   exact dI r _ ⟨c, by simp⟩
  ·split
   ·exact cE ⟨c, hc⟩ r _ h
   ·exact cE ⟨c, hc⟩ r _ h
def Cx.comp (X : Cx) (N : List Str) (scope : Scope) (fp : List Addr) (s : Shared) (H : Hp) : Cx where
 prog := X.prog
 w := X.w
 K := X.K
 mg := X.mg
 base := X.base
 A := X.A
 N := N
 s₀ := s
 H₀ := H
 env := compEnvC scope (aZ X.env scope.names []) (s.heap.objs.size + 1) X.env
 outer := X.stack
 stack := X.stack
 ex := fp
 calm := X.calm
 fn := fun _ => false
 pn := []
 xe := fun _ _ => False
def dh (k : Nat) (ix : List Nat) (σ : St) : St := List.replicate k none ++ ix.map fun j => (σ[j]?).join
structure cS (N : List Str) (sc : Scope) (scope : Scope) (own : List Str) (ix : List Nat) : Prop where
 kind : scope.kind = .function
 nocell : ∀ y ∈ scope.names, y.2 ≠ .cell
 names : ∀ y ∈ scope.names, y.2 = .local -> scope.names.lookup y.1 = some .local
 free : ∀ y ∈ scope.names, y.2 = .free -> sc.names.lookup y.1 = some .cell \/ sc.names.lookup y.1 = some .free
 cap : ∀ j ∈ ix, ∀ x, N[j]? = some x -> (x, NameKind.free) ∈ scope.names /\ (scope.names.lookup x = some .free)
 inN : ∀ j ∈ ix, j < N.length
abbrev lcN (N own : List Str) (ix : List Nat) : List Str := own ++ ix.filterMap fun j => N[j]?
theorem sk {N own : List Str} {ix : List Nat} (h : ∀ j ∈ ix, j < N.length) : (lcN N own ix).length = own.length + ix.length := by
 unfold lcN
 rw [List.length_append]
 congr 1
 induction ix with
 | nil => rfl
 | cons j r ih =>
  have hj : j < N.length := h j List.mem_cons_self
  rw [List.filterMap_cons, List.getElem?_eq_getElem hj]
  show _ + 1 = _ + 1
  rw [ih fun i hi => h i (List.mem_cons_of_mem _ hi)]
theorem eS {N : List Str} : ∀ {ix : List Nat}, (∀ j ∈ ix, j < N.length) -> ∀ {i : Nat} {x : Str}, (ix.filterMap fun j => N[j]?)[i]? = some x -> ∃ j, ix[i]? = some j /\ N[j]? = some x
 | [], _, i, x, e => by simp at e
 | j :: r, h, i, x, e => by
  have hj : j < N.length := h j List.mem_cons_self
  rw [List.filterMap_cons, List.getElem?_eq_getElem hj] at e
  cases i with
  | zero =>
   refine ⟨j, rfl, ?_⟩
   rw [List.getElem?_eq_getElem hj]
   exact e
  | succ i =>
   obtain ⟨j', e1, e2⟩ := eS (fun i hi => h i (List.mem_cons_of_mem _ hi)) (i := i) (x := x) (by simpa using e)
   exact ⟨j', by simpa using e1, e2⟩
theorem jc {k : Nat} {ix : List Nat} {σ : St} {i : Nat} {v : V} (h : (dh k ix σ)[i]? = some (some v)) : ∃ i' j, i = k + i' /\ ix[i']? = some j /\ σ[j]? = some (some v) := by
 unfold dh at h
 by_cases hi : i < k
 ·rw [List.getElem?_append_left (by simpa using hi), List.getElem?_replicate, if_pos hi] at h
  cases h
 ·rw [List.getElem?_append_right (by simpa using hi), List.length_replicate, List.getElem?_map] at h
  refine ⟨i - k, ?_⟩
  cases e : ix[i - k]? with
  | none => rw [e] at h; cases h
  | some j =>
   rw [e] at h
   refine ⟨j, by omega, rfl, ?_⟩
   have h' : (σ[j]?).join = some v := by simpa using h
   cases q : σ[j]? with
   | none => rw [q] at h'; cases h'
   | some o =>
    rw [q] at h'
    exact congrArg some h'
theorem cy {env : Env} {x : Str} : ∀ {names : List (Str × NameKind)}, names.lookup x = some .free ->
  (names.map fun (n, k) => if (k == NameKind.free && env.scope.kind == .function && env.kindOf n == some .cell) then (n, NameKind.cell) else (n, k)).lookup x = some .cell \/
  (names.map fun (n, k) => if (k == NameKind.free && env.scope.kind == .function && env.kindOf n == some .cell) then (n, NameKind.cell) else (n, k)).lookup x = some .free
 | [], h => by simp at h
 | (n, k) :: r, h => by
  have ih := @cy env x r
  rw [List.map_cons]
  show List.lookup x ((if (k == NameKind.free && env.scope.kind == .function && env.kindOf n == some .cell) = true then (n, NameKind.cell) else (n, k)) :: _) = _ \/ List.lookup x ((if (k == NameKind.free && env.scope.kind == .function && env.kindOf n == some .cell) = true then (n, NameKind.cell) else (n, k)) :: _) = _
  cases hx : x == n with
  | true =>
   simp only [List.lookup_cons, hx] at h
   cases h
   by_cases hc : (NameKind.free == NameKind.free && env.scope.kind == .function && env.kindOf n == some .cell) = true
   ·rw [if_pos hc]; left; simp only [List.lookup_cons, hx]
   ·rw [if_neg hc]; right; simp only [List.lookup_cons, hx]
  | false =>
   simp only [List.lookup_cons, hx] at h
   by_cases hc : (k == NameKind.free && env.scope.kind == .function && env.kindOf n == some .cell) = true
   ·rw [if_pos hc]; simp only [List.lookup_cons, hx]; exact ih h
   ·rw [if_neg hc]; simp only [List.lookup_cons, hx]; exact ih h
theorem cn {env : Env} {x : Str} {kd : NameKind} : ∀ {names : List (Str × NameKind)},
  (names.map fun (n, k) => if (k == NameKind.free && env.scope.kind == .function && env.kindOf n == some .cell) then (n, NameKind.cell) else (n, k)).lookup x = some kd -> (kd = .cell \/ kd = .free) -> (∀ y ∈ names, y.2 ≠ .cell) ->
  (x, NameKind.free) ∈ names
 | [], h, _, _ => by simp at h
 | (n, k) :: r, h, hk, hc => by
  have ih := @cn env x kd r
  rw [List.map_cons] at h
  have hcr : ∀ y ∈ r, y.2 ≠ .cell := fun y hy => hc y (List.mem_cons_of_mem _ hy)
  by_cases hf : k = .free
  ·subst hf
   cases hx : x == n with
   | true =>
    have : x = n := by simpa using hx
    subst this
    exact List.mem_cons_self
   | false =>
    refine List.mem_cons_of_mem _ (ih ?_ hk hcr)
    by_cases hcc : (NameKind.free == NameKind.free && env.scope.kind == .function && env.kindOf n == some .cell) = true
    ·have h2 : List.lookup x ((if (NameKind.free == NameKind.free && env.scope.kind == .function && env.kindOf n == some .cell) = true then (n, NameKind.cell) else (n, NameKind.free)) :: r.map fun (n, k) => if (k == NameKind.free && env.scope.kind == .function && env.kindOf n == some .cell) then (n, NameKind.cell) else (n, k)) = some kd := h
     rw [if_pos hcc, List.lookup_cons, hx] at h2
     exact h2
    ·have h2 : List.lookup x ((if (NameKind.free == NameKind.free && env.scope.kind == .function && env.kindOf n == some .cell) = true then (n, NameKind.cell) else (n, NameKind.free)) :: r.map fun (n, k) => if (k == NameKind.free && env.scope.kind == .function && env.kindOf n == some .cell) then (n, NameKind.cell) else (n, k)) = some kd := h
     rw [if_neg hcc, List.lookup_cons, hx] at h2
     exact h2
  ·have hb : (k == NameKind.free) = false := by simpa using hf
   have h2 : List.lookup x ((if (k == NameKind.free && env.scope.kind == .function && env.kindOf n == some .cell) = true then (n, NameKind.cell) else (n, k)) :: r.map fun (n, k) => if (k == NameKind.free && env.scope.kind == .function && env.kindOf n == some .cell) then (n, NameKind.cell) else (n, k)) = some kd := h
   rw [hb, Bool.false_and, Bool.false_and, if_neg Bool.false_ne_true, List.lookup_cons] at h2
   cases hx : x == n with
   | true =>
    rw [hx] at h2
    cases h2
    rcases hk with z | z
    ·exact absurd z (hc (n, _) List.mem_cons_self)
    ·exact absurd z hf
   | false =>
    rw [hx] at h2
    exact List.mem_cons_of_mem _ (ih h2 hk hcr)
theorem nlt {a b : Nat} (h : a < b) : a ≠ b := Nat.ne_of_lt h
theorem ngt {a b : Nat} (h : a < b) : b ≠ a := Nat.ne_of_gt h
theorem js {a b : Nat} (h : a < b) : a ≠ b + 1 := Nat.ne_of_lt (Nat.lt_succ_of_lt h)
theorem wF {a b : Nat} (h : a < b) : b + 1 ≠ a := Nat.ne_of_gt (Nat.lt_succ_of_lt h)
theorem nss (a : Nat) : a ≠ a + 1 := Nat.ne_of_lt (Nat.lt_succ_self a)
theorem vP (a : Nat) : a + 1 ≠ a := Nat.ne_of_gt (Nat.lt_succ_self a)
section
variable {X : Cx} {pins : List (Addr × Obj)} {σ : St} {H : Hp} {s : Shared} {scope : Scope} {own : List Str} {ix : List Nat} {fp : List Addr}
theorem Inv.compOk {N : List Str} (I : Inv X pins σ H s) (L : cS X.N X.env.scope scope own ix) (hf : ∀ b ∈ fp, iA X pins H b) (hlt : ∀ b ∈ fp, b < s.heap.objs.size) : (X.comp N scope fp s H).Ok where
 mod := I.ok.mod
 kind := L.kind
 glob := I.ok.glob
 blt := I.ok.blt
 above := Nat.le_succ _
 inj := fun x y c h1 h2 => I.ok.inj x y c (bC _ _ (fun _ _ z => by simp at z) x c h1) (bC _ _ (fun _ _ z => by simp at z) y c h2)
 has := fun x hx => by
  have hm : (x, NameKind.free) ∈ scope.names := by
   rcases hx with hx | hx
   ·exact cn (env := X.env) (x := x) (names := scope.names) hx (.inl rfl) L.nocell
   ·exact cn (env := X.env) (x := x) (names := scope.names) hx (.inr rfl) L.nocell
  exact cE (I.ok.has x (L.free _ hm rfl)) _ _ hm
 cab := fun x c h => by cases h
 hd := I.ok.hd
 frames := I.ok.frames
 stk := .inl rfl
 exf := fun b hb => ⟨js (hlt b hb), fun x c e => (hf b hb).2.2.2.2.1 x c (bC _ _ (fun _ _ z => by simp at z) x c e)⟩
 bs := I.bs
 bsz := Nat.le_trans I.ok.bsz I.sz
 noex := fun b o e hb => by
  rcases (hf b hb).2.2.2.1 with z | z
  ·exact I.ok.noex b o e z
  ·exact absurd (Nat.lt_of_lt_of_le (Heap.lt_size e) (Nat.le_trans I.ok.bsz z)) (Nat.lt_irrefl _)
 exfs := fun b hb z => by
  rcases List.mem_cons.mp (I.stkSub b z) with e | e
  ·exact (hf b hb).2.1 e
  ·exact (hf b hb).2.2.1 e
 funs := I.stack
 frf := I.stkFree
theorem Inv.compStart {h1 : Heap} {tk : Nat} (I : Inv X pins σ H s) (L : cS X.N X.env.scope scope own ix) (hf : ∀ b ∈ fp, iA X pins H b) (hlt : ∀ b ∈ fp, b < s.heap.objs.size)
  (k : ∀ b o, s.heap.get? b = some o -> h1.get? b = some o) {m : Str -> Option Value} (hn : h1.Ns (s.heap.objs.size + 1) m) :
  Inv (X.comp (lcN X.N own ix) scope fp s H) [] (dh own.length ix σ) H { s with heap := h1, toks := tk } := by
 have sub := fun x c => bC (env := X.env) scope.names [] (fun _ _ z => by simp at z) x c
 refine ⟨I.compOk L hf hlt, rfl, I.bare, Un.kept k, ⟨m, hn, fun i x v e1 e2 e3 => ?_⟩, fun x c e => ?_, I.hok.fresh (Nat.le_succ _), fun x c e => I.freeC x c (sub x c e), fun p hp => absurd (show p ∈ ([] : List (Addr × Obj)) from hp) (by simp), I.hok.kept k, ?_⟩
 ·obtain ⟨i', j, rfl, hj, hv⟩ := jc e2
  have e1' : (lcN X.N own ix)[own.length + i']? = some x := e1
  unfold lcN at e1'
  rw [List.getElem?_append_right (Nat.le_add_right _ _), Nat.add_sub_cancel_left] at e1'
  obtain ⟨j', hj', hN⟩ := eS L.inN e1'
  rw [hj] at hj'
  cases hj'
  have hjm : j ∈ ix := List.mem_of_getElem? hj
  obtain ⟨hmem, hlk⟩ := L.cap j hjm x hN
  have hkind := L.free _ hmem rfl
  obtain ⟨m0, hn0, hl0⟩ := I.loc
  obtain ⟨u, r, l⟩ := hl0 j x v hN hv (by rcases hkind with z | z; exact .inr (.inl z); exact .inr (.inr z))
  refine ⟨u, r, .inr ⟨?_, ?_⟩⟩
  ·exact cy (env := X.env) hlk
  ·rcases l with ⟨kl, _⟩ | ⟨_, c, hc, hcell⟩
   ·have kl' : X.env.scope.names.lookup x = some .local := kl
    rcases hkind with z | z
    ·rw [kl'] at z; cases z
    ·rw [kl'] at z; cases z
   ·obtain ⟨c', hc'⟩ := cE (env := X.env) ⟨c, hc⟩ scope.names [] hmem
    have : c' = c := by
     have q := sub x c' hc'
     rw [hc] at q
     exact (Option.some.inj q).symm
    subst this
    obtain ⟨o, ho, hd⟩ := hcell
    exact ⟨c', hc', o, k _ _ ho, hd⟩
 ·obtain ⟨v, o, ho, hd⟩ := I.cell x c (sub x c e)
  exact ⟨v, o, k _ _ ho, hd⟩
 ·show (dh own.length ix σ).length = (lcN X.N own ix).length
  rw [sk L.inN]
  unfold dh
  rw [List.length_append, List.length_replicate, List.length_map]
def GW (k : Nat) (g : TG) : Prop := ∀ x (σ : St) H (Q : St -> Hp -> Prop), g x σ H Q -> g x σ H fun σ2 H2 => Q σ2 H2 /\ σ2.length = σ.length /\ ∀ j, k <= j -> σ2[j]? = σ[j]?
theorem eK {k i : Nat} (h : i < k) : GW k (cV i) := fun x σ H Q q => ⟨q, by simp, fun j hj => by rw [List.getElem?_set_ne (by omega)]⟩
def GWs (k : Nat) (g : TGs) : Prop := ∀ x (σ : St) H (Q : St -> Hp -> Prop), g x σ H Q -> g x σ H fun σ2 H2 => Q σ2 H2 /\ σ2.length = σ.length /\ ∀ j, k <= j -> σ2[j]? = σ[j]?
def GM (g : TG) : Prop := ∀ x (σ : St) H (Q Q' : St -> Hp -> Prop), (∀ s h, Q s h -> Q' s h) -> g x σ H Q -> g x σ H Q'
theorem jP {i : Nat} : GM (cV i) := fun _ _ _ _ _ h q => h _ _ q
theorem sD {k : Nat} : GWs k mD := fun x σ H Q q => ⟨q.1, q.2, rfl, fun _ _ => rfl⟩
theorem kQ {k : Nat} {t : TG} {u : TGs} (ht : GW k t) (hu : GWs k u) (mt : GM t) (mu : ∀ x (σ : St) H (Q Q' : St -> Hp -> Prop), (∀ s h, Q s h -> Q' s h) -> u x σ H Q -> u x σ H Q') : GWs k (eV t u) := fun x σ H Q q => by
 obtain ⟨v, r, e, q⟩ := q
 refine ⟨v, r, e, mt _ _ _ _ _ ?_ (ht _ _ _ _ q)⟩
 rintro σ1 H1 ⟨q1, l1, j1⟩
 refine mu _ _ _ _ _ ?_ (hu _ _ _ _ q1)
 rintro σ2 H2 ⟨q2, l2, j2⟩
 exact ⟨q2, l2.trans l1, fun j hj => (j2 j hj).trans (j1 j hj)⟩
theorem nh : ∀ x (σ : St) H (Q Q' : St -> Hp -> Prop), (∀ s h, Q s h -> Q' s h) -> mD x σ H Q -> mD x σ H Q' := fun _ _ _ _ _ h q => ⟨q.1, h _ _ q.2⟩
theorem qd {t : TG} {u : TGs} (mt : GM t) (mu : ∀ x (σ : St) H (Q Q' : St -> Hp -> Prop), (∀ s h, Q s h -> Q' s h) -> u x σ H Q -> u x σ H Q') : ∀ x (σ : St) H (Q Q' : St -> Hp -> Prop), (∀ s h, Q s h -> Q' s h) -> eV t u x σ H Q -> eV t u x σ H Q' :=
 fun _ _ _ _ _ h ⟨v, r, e, q⟩ => ⟨v, r, e, mt _ _ _ _ _ (fun _ _ q1 => mu _ _ _ _ _ h q1) q⟩
theorem uG {k : Nat} {K : PySem.W.Frag} {n : Nat} {t : TGs} (ht : GWs k t) : GW k (qD K n t) := fun x σ H Q q => by
 obtain ⟨a, xs, e, hq, hl, q⟩ := q
 exact ⟨a, xs, e, hq, hl, ht _ _ _ _ q⟩
theorem hJ {K : PySem.W.Frag} {i j k : Nat} (hi : i < k) (hj : j < k) : GW k (qD K 2 (eV (cV i) (eV (cV j) mD))) :=
 uG (kQ (eK hi) (kQ (eK hj) sD jP nh) jP (qd jP nh))
def PIf (X : Cx) (ifs : List Expr) (t : TT) : Prop :=
 ∀ (pins : List (Addr × Obj)) (s : Shared) (σ : St) (H : Hp) (Q : Bool -> Hp -> Prop), Inv X pins σ H s -> t σ H Q ->
  wpAny (model X.prog X.w) X.A (forIn ifs true fun c r => if r = true then do let ok <- isTrue c X.env (eval c X.env); pure (ForInStep.yield ok) else pure (ForInStep.yield r)) (TP X pins σ Q) X.xe s
def sN : TT := fun _ H Q => Q true H
theorem cW : PIf X [] sN := fun _ _ _ H _ I h => wpAny_tests_nil ⟨H, I, h⟩
theorem sn {c : Expr} {t : TT} (h : PT X c t) : PIf X [c] t := fun pins s σ H Q I q => wpAny_tests_one (h pins s σ H Q I q)
def rLC (J : It) (k : Nat) (ix : List Nat) (g : TG) (tt : TT) (te : TE) (σ : St) (H1 : Hp) (Q : List V -> Hp -> Prop) : Prop :=
 ∃ W : Nat -> Nat -> List V -> Hp -> Prop, (∃ m, W 0 m [] H1) /\ ∀ i m ys H, W i m ys H ->
  (J.stop i H /\ Q ys H) \/
  (J.go i H /\ ∃ N : List V -> Hp -> Prop, (∀ ys' H', N ys' H' -> ∃ m', m' < m /\ W (i + 1) m' ys' H') /\ ∀ x H', J.yld i H x H' -> g x (dh k ix σ) H' fun σ2 H2 => tt σ2 H2 fun c H3 =>
   if c = true then te σ2 H3 fun y H4 => ys.length < sizeLine /\ N (ys ++ [y]) H4
   else N ys H3)
theorem lj {elt tg iter : Expr} {ifs : List Expr} {pos : Pos} {it : Addr} {tn : Nat -> Heap -> Prop} {J : It} {g : TG} {tt : TT} {te : TE} {E : Value -> Shared -> Prop} {Qf : List V -> Hp -> Prop} {RR : Value -> Addr -> Result -> Shared -> Prop}
  (L : cS X.N X.env.scope scope own ix) (hc : X.calm = true) (hg : ∀ fp s H, PG (X.comp (lcN X.N own ix) scope fp s H) tg g) (gw : GW own.length g)
  (ht : ∀ fp s H, PIf (X.comp (lcN X.N own ix) scope fp s H) ifs tt) (he : ∀ fp s H, PE (X.comp (lcN X.N own ix) scope fp s H) elt te)
  (I : Inv X pins σ H s) (T : jC X.prog X.w X.K tg J fp it tn) (st : tn 0 s.heap) (hf : ∀ b ∈ fp, iA X pins H b)
  (hw : rLC J own.length ix g tt te σ H Qf)
  (hRR : ∀ (D C : Addr) (s' : Shared) (ys : List V) (H' : Hp) (m : Str -> Option Value), s'.heap.Ns C m -> C ≠ X.env.locals -> (∀ x c, X.env.cells.lookup x = some c -> c ≠ C) -> X.s₀.heap.objs.size <= C -> (∀ p ∈ X.pn ++ pins, p.1 ≠ C) -> upd H' D (.lst ys) C = none -> H' D = none ->
   Inv X pins σ (upd H' D (.lst ys)) s' -> Qf ys H' -> RR (.ref D) C (.ok .next) s') :
  wpAny (model X.prog X.w) X.A (newList []) (fun acc s₃ => wpAny (model X.prog X.w) X.A (newFunctionEnv scope X.env.globals (aZ X.env scope.names []) [] X.env.qual none .none (some X.env)) (fun cenv s₄ =>
   codeAny (model X.prog X.w) X.A (.compStart (.ListComp elt [⟨tg, iter, ifs, 0⟩] scope pos) 0 (.ref it) acc { cenv with scope := relabel scope X.env }) (RR acc cenv.locals) s₄) E s₃) E s := by
 obtain ⟨W, ⟨m0, w0⟩, turn⟩ := hw
 have hlt : ∀ b ∈ fp, b < s.heap.objs.size := fun b hb => by
  obtain ⟨o, e, _⟩ := T.obj 0 s.heap st b hb
  exact Heap.lt_size e
 refine wpAny_newObj_type (wpAny_newFunctionEnv L.nocell (by intro y hy; simp at hy) (fun h₁ hns₁ hsb₁ => ?_) L.kind)
 dsimp only at hns₁ hsb₁ ⊢
 generalize hH2 : s.heap.push { cls := .type "list", dict := none, data := .seq ([] : List Value).toArray } = h2 at hns₁ hsb₁ ⊢
 have hC : h2.objs.size = s.heap.objs.size + 1 := by rw [<- hH2, Heap.size_push]
 have old : ∀ b o, s.heap.get? b = some o -> h₁.get? b = some o := fun b o e => by
  exact hsb₁.extBut b o (by rw [hC]; exact js (Heap.lt_size e)) (Heap.get?_push_of_some _ (hH2 ▸ Heap.get?_push_of_some _ e))
 have hacc : h₁.PlainList s.heap.objs.size #[] := ⟨_, hsb₁.extBut _ _ (by rw [hC]; exact nss _) (Heap.get?_push_of_some _ (hH2 ▸ Heap.get?_push_size _ rfl))⟩
 have hD0 : H s.heap.objs.size = none := I.hok.fresh (Nat.le_refl _)
 rw [hC] at hns₁
 have I0 := I.compStart (tk := s.toks + ([] : List (Str × Value)).length) L hf hlt old hns₁
 have sub := fun x c => bC (env := X.env) scope.names [] (fun _ _ z => by simp at z) x c
 have cellLt : ∀ x c, X.env.cells.lookup x = some c -> c < s.heap.objs.size := fun x c e => by
  obtain ⟨v, q⟩ := I.cell x c e
  exact q.lt
 have stkLt : ∀ b ∈ frs X.stack, b < s.heap.objs.size := fun b hb => by
  obtain ⟨_, o, ho, _⟩ := I.stack.mem hb
  exact Heap.lt_size ho
 have env_eq : ({ newEnv scope h2.objs.size X.env.globals (aZ X.env scope.names []) X.env.qual none .none (some X.env) builtinsNs with scope := relabel scope X.env } : Env) = (X.comp (lcN X.N own ix) scope fp s H).env := by
  show compEnvC scope (aZ X.env scope.names []) h2.objs.size X.env = compEnvC scope (aZ X.env scope.names []) (s.heap.objs.size + 1) X.env
  rw [hC]
 have loop : codeAny (model X.prog X.w) X.A (.compLoop (.ListComp elt [⟨tg, iter, ifs, 0⟩] scope pos) 0 (.ref it) (.ref s.heap.objs.size) (X.comp (lcN X.N own ix) scope fp s H).env) (RR (.ref s.heap.objs.size) (s.heap.objs.size + 1))
   { s with heap := h₁, toks := s.toks + ([] : List (Str × Value)).length } := by
  refine rW (fun n s' => ∃ i ys H', Inv (X.comp (lcN X.N own ix) scope fp s H) [] (dh own.length ix σ) H' s' /\ tn i s'.heap /\ (∀ b ∈ fp, H' b = none) /\ H' s.heap.objs.size = none /\
   (∃ its : List Value, aF ys its /\ s'.heap.PlainList s.heap.objs.size its.toArray) /\ ys.length <= sizeLine /\ W i n ys H') ?_ m0
   ⟨0, [], H, I0, T.keep _ _ _ st (fun b _ o e => old b o e), fun b hb => (hf b hb).1, hD0, ⟨[], .nil, hacc⟩, Nat.zero_le _, w0⟩
  rintro n s3 ⟨i, ys, H3, I3, st3, fr3, d3, ⟨its, rv, n3, hp3⟩, hz, w3⟩
  have Ip := I3.pins_of (pins' := [(s.heap.objs.size, { cls := .type "list", data := .seq its.toArray n3 })]) (fun p hp => by
   have e : p = (s.heap.objs.size, { cls := .type "list", data := .seq its.toArray n3 }) := by simpa using hp
   subst e
   exact ⟨hp3, d3, nss _, fun z => absurd (stkLt _ z) (Nat.lt_irrefl _), fun v z => by cases z⟩)
  have stat : ∀ {H' : Hp}, (∀ b ∈ fp, H' b = none) -> ∀ b ∈ fp, iA (X.comp (lcN X.N own ix) scope fp s H) [(s.heap.objs.size, { cls := .type "list", data := .seq its.toArray n3 })] H' b := fun hn b hb =>
   ⟨hn b hb, js (hlt b hb), I3.ok.exfs b hb, .inl hb, fun x c e => (I3.ok.exf b hb).2 x c e, fun p hp => by
    have e : p = (s.heap.objs.size, { cls := .type "list", data := .seq its.toArray n3 }) := by simpa using (show p ∈ ([] : List (Addr × Obj)) ++ [(s.heap.objs.size, { cls := .type "list", data := .seq its.toArray n3 })] from hp)
    subst e
    exact ngt (hlt b hb)⟩
  rcases turn i n ys H3 w3 with ⟨stop, qf⟩ | ⟨go, N, hN, step⟩
  ·refine thn (T.done (X.comp (lcN X.N own ix) scope fp s H) rfl rfl rfl hc i _ s3 _ H3 _ Ip (stat fr3) st3 stop) fun r s4 ⟨hr, I4⟩ => ?_
   subst hr
   obtain ⟨e4, d4, _⟩ := I4.pin (s.heap.objs.size, { cls := .type "list", data := .seq its.toArray n3 }) (List.mem_append_right _ List.mem_cons_self)
   obtain ⟨mC, hnC, _⟩ := I4.loc
   have hok : HOk X.prog X.w (upd H3 s.heap.objs.size (.lst ys)) s4.heap := fun b u e => by
    by_cases hb : b = s.heap.objs.size
    ·subst hb
     rw [ad] at e
     cases e
     exact ⟨hz, its, n3, rv, e4⟩
    ·rw [au hb] at e
     exact (I4.hok b u e).stay (fun c v _ q => q) (fun c q => by rw [au (ap q d4)]; exact q) fun c xs q => by rw [au (ap q d4)]; exact q
   have ub := I4.base
   have un : Un (frs X.stack) fp H (upd H3 s.heap.objs.size (.lst ys)) s.heap s4.heap :=
    ⟨ub.keep, ub.slot, fun b o e n hx => by rw [au (Nat.ne_of_lt (Heap.lt_size e))]; exact ub.free b o e n hx, ub.there,
     fun b xs e => by rw [au (ap (ub.tups b xs e) d4)]; exact ub.tups b xs e, fun b o u e => by rw [au (ap (ub.frzs b o u e) d4)]; exact ub.frzs b o u e,
     fun b ps e => by
      obtain ⟨more, q⟩ := ub.tbls b ps e
      exact ⟨more, by rw [au (ap q d4)]; exact q⟩⟩
   have I5 : Inv X pins σ (upd H3 s.heap.objs.size (.lst ys)) s4 := I.call' I4.os un hok I4.bare fun b hb => by
    obtain ⟨f0, f1, f2, f3, f4, f5⟩ := hf b hb
    exact ⟨f3, f1, f4, f5⟩
   refine hRR _ _ s4 ys H3 mC hnC ?_ ?_ ?_ ?_ ?_ d4 I5 qf
   ·exact wF I.lt
   ·intro x c e
    exact js (cellLt x c e)
   ·exact Nat.le_trans I.sz (Nat.le_succ _)
   ·intro p hp
    exact js (Heap.lt_size (I.pin p hp).1)
   ·rw [au (vP _)]
    exact I4.free
  ·refine thn (T.item (X.comp (lcN X.N own ix) scope fp s H) rfl rfl rfl hc i _ s3 _ H3 _ Ip (stat fr3) st3 go) fun r s4 ⟨u, hr, h4⟩ => ?_
   subst hr
   refine thn h4 fun _ s5 ⟨x, H5, I5, r5, y5, st5, fr5⟩ => ?_
   have I5' := I5.pinned (stat fr5) (T.obj _ _ st5)
   refine thn (hg fp s H _ s5 _ H5 x u _ I5' r5 (gw _ _ _ _ (step x H5 y5))) fun _ s6 ⟨σ6, H6, I6, q6, l6, k6⟩ => ?_
   refine thn (ht fp s H _ s6 σ6 H6 _ I6 q6) fun c s7 ⟨H7, I7, q7⟩ => ?_
   have again : ∀ {s8 : Shared} {H8 : Hp}, Inv (X.comp (lcN X.N own ix) scope fp s H) ([(s.heap.objs.size, { cls := .type "list", data := .seq its.toArray n3 })] ++ gT fp s5.heap) σ6 H8 s8 ->
     Inv (X.comp (lcN X.N own ix) scope fp s H) [] (dh own.length ix σ) H8 s8 /\ tn (i + 1) s8.heap /\ (∀ b ∈ fp, H8 b = none) /\ H8 s.heap.objs.size = none /\ s8.heap.get? s.heap.objs.size = some { cls := .type "list", data := .seq its.toArray n3 } := fun {s8 H8} I8 => by
    obtain ⟨e8, d8, _⟩ := I8.pin (s.heap.objs.size, { cls := .type "list", data := .seq its.toArray n3 }) (List.mem_append_right _ (List.mem_append_left _ List.mem_cons_self))
    refine ⟨(I8.pins_of (pins' := []) fun p hp => by cases hp).weak l6.symm fun j v e => ?_, T.keep _ _ _ st5 fun b hb o e => (I8.pin (b, o) (List.mem_append_right _ (List.mem_append_right _ (dO hb e)))).1, fun b hb => ?_, d8, e8⟩
    ·obtain ⟨i', j', rfl, _, _⟩ := jc e
     rw [k6 _ (Nat.le_add_right _ _)]
     exact e
    ·obtain ⟨o, e, d⟩ := T.obj _ _ st5 b hb
     exact (I8.pin (b, o) (List.mem_append_right _ (List.mem_append_right _ (dO hb e)))).2.1
   cases c with
   | false =>
    rw [if_neg Bool.false_ne_true] at q7 ⊢
    obtain ⟨m', hm, w7⟩ := hN _ _ q7
    obtain ⟨a1, a2, a3, a4, a5⟩ := again I7
    exact ⟨m', hm, i + 1, ys, H7, a1, a2, a3, a4, ⟨its, rv, n3, a5⟩, hz, w7⟩
   | true =>
    rw [if_pos rfl] at q7 ⊢
    refine thn (he fp s H _ s7 σ6 H7 _ I7 q7) fun v s8 ⟨y, H8, I8, r8, hz8, q8⟩ => ?_
    obtain ⟨m', hm, w8⟩ := hN _ _ q8
    obtain ⟨a1, a2, a3, a4, a5⟩ := again I8
    refine wpAny_list_append_plain (s := s8) (l := s.heap.objs.size) (items := its.toArray) ⟨n3, a5⟩ (fun h9 hl9 hs9 => ?_) (by have := rv.length; simp; omega)
    have I9 : Inv (X.comp (lcN X.N own ix) scope fp s H) [] (dh own.length ix σ) H8 { s8 with heap := h9 } := a1.turned (t' := s8.toks) (it := s.heap.objs.size) (fun b o hb e => hs9.extBut b o hb e) a4 (nss _)
     (.inr (Nat.le_refl _)) (fun x c e => nlt (cellLt x c (sub x c e))) (fun p hp => absurd (show p ∈ ([] : List (Addr × Obj)) from hp) (by simp))
    refine ⟨m', hm, i + 1, ys ++ [y], H8, I9, T.keep _ _ _ a2 (fun b hb o e => hs9.extBut b o (nlt (hlt b hb)) e), a3, a4, ⟨its ++ [v], aF.append rv (.cons r8 .nil), ?_⟩, ?_, w8⟩
    ·have e : (its ++ [v]).toArray = its.toArray.push v := by simp
     rw [e]
     exact hl9
    ·rw [List.length_append]
     show _ + 1 <= _
     omega
 show codeAny _ _ (.compStart _ 0 (.ref it) (.ref s.heap.objs.size) _) (RR (.ref s.heap.objs.size) h2.objs.size) _
 rw [hC]
 have e2 := env_eq
 rw [hC] at e2
 refine Eq.mpr (congrArg (fun e => codeAny (model X.prog X.w) X.A (.compStart (.ListComp elt [⟨tg, iter, ifs, 0⟩] scope pos) 0 (.ref it) (.ref s.heap.objs.size) e) (RR (.ref s.heap.objs.size) (s.heap.objs.size + 1)) { s with heap := h₁, toks := s.toks + ([] : List (Str × Value)).length }) e2) ?_
 exact codeAny_compStart_list loop (T.self X.A 0 _ _ _ (T.keep _ _ _ st fun b _ o e => old b o e) loop)
end
section
variable {X : Cx} {scope : Scope} {own : List Str} {ix : List Nat}
def tLC (wi : TI) (k : Nat) (ix : List Nat) (g : TG) (tt : TT) (te : TE) : TE := fun σ H Q => wi σ H fun J H1 => rLC J k ix g tt te σ H1 fun ys H' => ∀ a, H' a = none -> Q (.ref a) (upd H' a (.lst ys))
theorem Inv.clos {pins : List (Addr × Obj)} {σ : St} {H : Hp} {s : Shared} (I : Inv X pins σ H s) (L : cS X.N X.env.scope scope own ix) : closureFor scope X.env = pure (aZ X.env scope.names []) :=
 lD fun x hx hf => I.ok.has x.1 (L.free x hx hf)
theorem iz {elt tg iter : Expr} {ifs : List Expr} {pos : Pos} {wi : TI} {g : TG} {tt : TT} {te : TE} (hi : PI X tg iter wi) (L : cS X.N X.env.scope scope own ix) (hc : X.calm = true)
  (hg : ∀ fp s H, PG (X.comp (lcN X.N own ix) scope fp s H) tg g) (gw : GW own.length g) (ht : ∀ fp s H, PIf (X.comp (lcN X.N own ix) scope fp s H) ifs tt) (he : ∀ fp s H, PE (X.comp (lcN X.N own ix) scope fp s H) elt te)
  (hs : ∀ x, foldedSetIterable iter X.env x = pure x := by intro _; rfl) : PE X (.ListComp elt [⟨tg, iter, ifs, 0⟩] scope pos) (tLC wi own.length ix g tt te) := by
 intro pins s σ H Q I h
 rw [eval_ListComp]
 refine wpAny_comprehension_free (use := none) rfl hs (I.clos L) L.kind L.names (thn (hi pins s σ H _ I h) fun v s1 h1 => thn h1 fun itv s2 h2 => ?_)
 obtain ⟨it, fp, tn, J, H2, e, I2, T, st2, f2, hw⟩ := h2
 subst e
 refine lj (RR := fun acc C => compPost (model X.prog X.w) X.A X.xe none (EP X pins σ Q) acc C) L hc hg gw ht he I2 T st2 f2 hw ?_
 intro D C s' ys H' m hn c1 c2 c3 c4 c5 d I' q
 exact ⟨m, hn, fun h' hs' => ⟨.ref D, _, I'.turned (t' := s'.toks) (it := C) (fun b o hb e => hs'.extBut b o hb e) c5 c1 (.inr c3) c2 c4, rfl, q D d⟩⟩
theorem tu {elt tg iter : Expr} {ifs : List Expr} {pos spos py : Pos} {wi : TI} {g : TG} {tt : TT} {te : TE} {i : Nat} {y : Str} (hN : X.N.Nodup) (hy : X.N[i]? = some y) (hx : X.env.scope.names.lookup y = some .local) (hi : PI X tg iter wi) (L : cS X.N X.env.scope scope own ix) (hc : X.calm = true)
  (hg : ∀ fp s H, PG (X.comp (lcN X.N own ix) scope fp s H) tg g) (gw : GW own.length g) (ht : ∀ fp s H, PIf (X.comp (lcN X.N own ix) scope fp s H) ifs tt) (he : ∀ fp s H, PE (X.comp (lcN X.N own ix) scope fp s H) elt te)
  (hsw : swapsWith (.ListComp elt [⟨tg, iter, ifs, 0⟩] scope pos) (some (.Name y py)) spos.line X.env = pure true := by rfl)
  (hs : ∀ x, foldedSetIterable iter X.env x = pure x := by intro _; rfl) : PS X (.Assign [.Name y py] (.ListComp elt [⟨tg, iter, ifs, 0⟩] scope pos) spos) (ue (tLC wi own.length ix g tt te) (cV i)) := by
 intro pins s σ H Dn I h
 rw [exec_Assign_Name_used _ _ _ _ hsw]
 refine wpAny_bind (wpAny_standAt (wpAny_bind ?_))
 show wpAny _ X.A (do let _ <- comprehension (.ListComp elt [⟨tg, iter, ifs, 0⟩] scope pos) scope X.env _ (newList []) false (eval iter X.env) (some (assign (.Name y py) X.env))) _ _ s
 refine wpAny_bind (thn (wpAny_comprehension_free (use := some (assign (.Name y py) X.env)) (Q := fun _ s' => SP X pins Dn .next s') rfl hs (I.clos L) L.kind L.names
  (thn (hi pins s σ H _ I h) fun v s1 h1 => thn h1 fun itv s2 h2 => ?_)) fun _ s' hq => wpAny_pure (wpAny_pure hq))
 obtain ⟨it, fp, tn, J, H2, e, I2, T, st2, f2, hw⟩ := h2
 subst e
 refine lj (RR := fun acc C => compPost (model X.prog X.w) X.A X.xe (some (assign (.Name y py) X.env)) (fun _ s' => SP X pins Dn .next s') acc C) L hc hg gw ht he I2 T st2 f2 hw ?_
 intro D C s' ys H' m hn c1 c2 c3 c4 c5 d I' q
 show wpAny _ X.A (assign (.Name y py) X.env (.ref D)) _ _ s'
 refine wpAny_assign_Name (jb I' hN hy (.inl hx) (v := .ref D) rfl (fun s2 I2 ⟨a, hs2, ha⟩ => ?_) (.inr hx))
 have aC : a ≠ C := by
  rcases ha with rfl | ha
  ·exact Ne.symm c1
  ·exact c2 y a ha
 refine ⟨m, hn.sameBut hs2 (Ne.symm aC), fun h' hs' => ?_⟩
 exact ⟨_, _, I2.turned (t' := s2.toks) (it := C) (fun b o hb e => hs'.extBut b o hb e) c5 c1 (.inr c3) c2 c4, q D d⟩
end
section
variable {k : Nat} {ix : List Nat} {g : TG} {tt : TT} {te : TE} {σ : St} {H1 : Hp} {Q : List V -> Hp -> Prop}
def dX (k : Nat) (ix : List Nat) (g : TG) (tt : TT) (te : TE) (σ : St) (x : V) (ys : List V) (H : Hp) (N : List V -> Hp -> Prop) : Prop :=
 g x (dh k ix σ) H fun σ2 H2 => tt σ2 H2 fun c H3 => if c = true then te σ2 H3 fun y H4 => ys.length < sizeLine /\ N (ys ++ [y]) H4 else N ys H3
theorem oh {J : It} {n : Nat} (Pv : Nat -> List V -> Hp -> Prop) (h0 : Pv 0 [] H1) (hgo : ∀ i ys H, i < n -> Pv i ys H -> J.go i H) (hst : ∀ ys H, Pv n ys H -> J.stop n H)
  (hs : ∀ i ys H x H', i < n -> Pv i ys H -> J.yld i H x H' -> dX k ix g tt te σ x ys H' (Pv (i + 1))) (hd : ∀ ys H, Pv n ys H -> Q ys H) : rLC J k ix g tt te σ H1 Q := by
 refine ⟨fun i m ys H => m = n - i /\ i <= n /\ Pv i ys H, ⟨n, by simp, Nat.zero_le _, h0⟩, ?_⟩
 rintro i m ys H ⟨rfl, hi, p⟩
 by_cases hlt : i < n
 ·exact .inr ⟨hgo i ys H hlt p, Pv (i + 1), fun ys' H' q => ⟨n - (i + 1), by omega, rfl, hlt, q⟩, fun x H' y => hs i ys H x H' hlt p y⟩
 ·have e : i = n := by omega
  subst e
  exact .inl ⟨hst ys H p, hd ys H p⟩
theorem kN {lo : Int} {n : Nat} (Pv : Nat -> List V -> Hp -> Prop) (h0 : Pv 0 [] H1) (hs : ∀ i ys H, i < n -> Pv i ys H -> dX k ix g tt te σ (.int (lo + i)) ys H (Pv (i + 1)))
  (hd : ∀ ys H, Pv n ys H -> Q ys H) : rLC (Itr lo n) k ix g tt te σ H1 Q :=
 oh (n := n) Pv h0 (fun i _ _ h _ => h) (fun _ _ _ => Nat.le_refl _) (fun i ys H x H' h p y => by
  obtain ⟨e, y⟩ := y
  subst e y
  exact hs i ys _ h p) hd
theorem nH {K : PySem.W.Frag} {a : Addr} {xs : List V} (Pv : Nat -> List V -> Hp -> Prop) (h0 : Pv 0 [] H1) (hl : ∀ i ys H, i <= xs.length -> Pv i ys H -> SqL K H a xs)
  (hs : ∀ i ys H x, xs[i]? = some x -> Pv i ys H -> dX k ix g tt te σ x ys H (Pv (i + 1))) (hd : ∀ ys H, Pv xs.length ys H -> Q ys H) : rLC (Itl K a) k ix g tt te σ H1 Q :=
 oh (n := xs.length) Pv h0 (fun i ys H h p => ⟨xs, xs[i], hl i ys H (Nat.le_of_lt h) p, by simp [h]⟩) (fun ys H p => ⟨xs, hl _ ys H (Nat.le_refl _) p, Nat.le_refl _⟩) (fun i ys H x H' h p y => by
  obtain ⟨e, y⟩ := y
  subst e
  exact hs i ys _ x (y xs (hl i ys _ (Nat.le_of_lt h) p)) p) hd
theorem jt {K : PySem.W.Frag} {a : Addr} {xs : List V} (Pv : Nat -> List V -> Hp -> Prop) (h0 : Pv 0 [] H1) (hl : ∀ i ys H, i <= xs.length -> Pv i ys H -> SqT K H a xs)
  (hs : ∀ i ys H x, xs[i]? = some x -> Pv i ys H -> dX k ix g tt te σ x ys H (Pv (i + 1))) (hd : ∀ ys H, Pv xs.length ys H -> Q ys H) : rLC (Itt K a) k ix g tt te σ H1 Q :=
 oh (n := xs.length) Pv h0 (fun i ys H h p => ⟨xs, xs[i], hl i ys H (Nat.le_of_lt h) p, by simp [h]⟩) (fun ys H p => ⟨xs, hl _ ys H (Nat.le_refl _) p, Nat.le_refl _⟩) (fun i ys H x H' h p y => by
  obtain ⟨e, y⟩ := y
  subst e
  exact hs i ys _ x (y xs (hl i ys _ (Nat.le_of_lt h) p)) p) hd
end
section
variable {X : Cx} {tg : Expr}
theorem KV.at {kvs : List (Key × V)} {vs : List (Key × Value)} (r : KV kvs vs) {i : Nat} {k : Key} {v : Value} (e : vs[i]? = some (k, v)) : ∃ x, kvs[i]? = some (k, x) /\ aR x v := by
 induction r generalizing i with
 | nil => simp at e
 | @cons p q ps qs h t ih =>
  cases i with
  | zero =>
   have e' : q = (k, v) := by simpa using e
   obtain ⟨p1, p2⟩ := p
   subst e'
   obtain ⟨h1, h2⟩ := h
   have h1' : p1 = k := h1
   subst h1'
   exact ⟨p2, rfl, h2⟩
  | succ i => exact ih (by simpa using e)
theorem nW {P : Program} {w : World} {k : Key} {u : Value} (h : (aA P w).is k u = true) : aR (kV k) u := by
 rcases bi (k := k) (v := u) h with ⟨i, t, rfl, rfl⟩ | ⟨x, t, rfl, rfl⟩
 ·exact ⟨t, rfl⟩
 ·exact ⟨t, rfl⟩
def Ite (K : PySem.W.Frag) (a : Addr) : It :=
 ⟨fun i H => ∃ xs x, SqL K H a xs /\ xs[i]? = some x, fun i H x H' => ∃ p y, H p = none /\ H' = upd H p (.tup [.int i, y]) /\ x = .ref p /\ ∀ xs, SqL K H a xs -> xs[i]? = some y, fun i H => ∃ xs, SqL K H a xs /\ xs.length <= i⟩
theorem oU {P : Program} {w : World} {K : PySem.W.Frag} {elts : List Expr} {x1} {tp : Pos} (a e it : Addr) (hei : e ≠ it) : jC P w K (.Tuple elts x1 tp) (Ite K a) [e, it] e (fun i h => (∃ old, IsEnum h e it i old) /\ h.IsListIter it a i) where
 mem := by simp
 obj := fun i h st b hb => by
  obtain ⟨⟨old, s1⟩, ⟨o, e2, c, d⟩⟩ := st
  rcases List.mem_cons.mp hb with rfl | hb
  ·exact ⟨_, s1, fun v z => by
    have z' : Data.fields _ = Data.cell v := z
    cases z'⟩
  ·have e' : b = it := by simpa using hb
   subst e'
   exact ⟨o, e2, fun v z => by rw [d] at z; cases z⟩
 keep := fun i h h' st k => ⟨let ⟨old, s1⟩ := st.1; ⟨old, k e (by simp) _ s1⟩, st.2.at fun o q => k it (by simp) o q⟩
 item := by
  intro X hP hw hK hc i pins s σ H E I hf st hg
  subst hP hw hK
  obtain ⟨xs, x, hq, hx⟩ := hg
  obtain ⟨its, rv, p, hz⟩ := I.list hq
  obtain ⟨u, hu, ru⟩ := rv.get hx
  obtain ⟨f0, f1, f2, f3, f4, f5⟩ := hf e (by simp)
  obtain ⟨g0, g1, g2, g3, g4, g5⟩ := hf it (by simp)
  obtain ⟨⟨old, s1⟩, s2⟩ := st
  have he : e < s.heap.objs.size := Heap.lt_size s1
  have hit : it < s.heap.objs.size := by obtain ⟨o, q, _⟩ := s2; exact Heap.lt_size q
  refine wpAny_pyNext_enum_item s1 s2 p.isList (x := u) (by simpa using hu) hei fun h1 heo hit1 ht1 hz1 hk1 => ?_
  refine ⟨_, rfl, wpAny_letOwnedTupleGo_enum heo fun h2 he2 hs2 => ?_⟩
  have hn : H s.heap.objs.size = none := I.hok.fresh (Nat.le_refl _)
  have keep : ∀ b o, b ≠ e -> b ≠ it -> s.heap.get? b = some o -> h2.get? b = some o := fun b o h1' h2' q => (hs2.2 b h1').trans (hk1 b o h1' h2' q)
  have tup : h2.get? s.heap.objs.size = some { cls := .type "tuple", data := .seq #[.int i s.toks, u] } := (hs2.2 _ (ngt he)).trans ht1
  have I2 : Inv X pins σ (upd H s.heap.objs.size (.tup [.int i, x])) { s with heap := h2, toks := s.toks + 1 } := by
   have nitx : ∀ b v, H b = some v -> b ≠ e /\ b ≠ it := fun b v q => ⟨(fun z => by rw [z, f0] at q; cases q), (fun z => by rw [z, g0] at q; cases q)⟩
   refine I.step (g' := s.gens) (d' := s.drawn) (ch := [e, it]) (fun b hb => ?_) (fun b o _ _ hc' q _ => keep b o (fun z => hc' (by simp [z])) (fun z => hc' (by simp [z])) q) (fun b o _ _ hc' q _ => ⟨o.slots, keep b o (fun z => hc' (by simp [z])) (fun z => hc' (by simp [z])) q⟩)
    (fun b o _ q n => by rw [au (nlt (Heap.lt_size q))]; exact n) (fun b o hc' q => ⟨o, keep b o (fun z => hc' (by simp [z])) (fun z => hc' (by simp [z])) q⟩)
    (fun b xs q => by rw [au (ap q hn)]; exact q) (fun b o v q => by rw [au (ap q hn)]; exact q) (fun b ps q => ⟨#[], by rw [au (ap q hn), q]; simp⟩) (fun m hm => ?_) (fun b v q => ?_) I.bare
   ·rcases List.mem_cons.mp hb with rfl | hb
    ·exact ⟨f3, f1, f4, f5⟩
    ·have e' : b = it := by simpa using hb
     subst e'
     exact ⟨g3, g1, g4, g5⟩
   ·obtain ⟨o, es, ep, ho, r⟩ := hm
    exact ⟨o, es, ep, keep _ o (Ne.symm f1) (Ne.symm g1) ho, r⟩
   ·by_cases hb : b = s.heap.objs.size
    ·subst hb
     rw [ad] at q
     cases q
     exact ⟨(show 2 <= sizeLine by rw [sizeLine_eq]; decide), [.int i s.toks, u], .cons ⟨_, rfl⟩ (.cons ru .nil), ⟨_, tup, rfl, 0, rfl⟩, _, tup, rfl⟩
    ·rw [au hb] at q
     refine (I.hok b v q).stay (fun c w' hc' q' => ?_) (fun c q' => by rw [au (ap q' hn)]; exact q') fun c xs q' => by rw [au (ap q' hn)]; exact q'
     rcases hc' with z | z
     ·subst z; exact keep c w' (nitx c v q).1 (nitx c v q).2 q'
     ·exact keep c w' (nitx c _ z).1 (nitx c _ z).2 q'
  refine ⟨.ref s.heap.objs.size, _, I2, rfl, ⟨_, x, hn, rfl, rfl, fun ys hy => by rw [I.list_inj hy hq]; exact hx⟩, ⟨⟨u, ?_⟩, ?_⟩, fun b hb => ?_⟩
  ·have e1 : ((i + 1 : Nat) : Int) = (i : Int) + 1 := by omega
   rw [e1]
   exact he2
  ·exact hit1.at fun o q => (hs2.2 _ (Ne.symm hei)).trans q
  ·have hb' : b < s.heap.objs.size := by
    rcases List.mem_cons.mp hb with rfl | hb
    ·exact he
    ·have e' : b = it := by simpa using hb
     subst e'; exact hit
   rw [au (nlt hb')]
   exact (hf b hb).1
 done := by
  intro X hP hw hK hc i pins s σ H E I hf st hg
  subst hP hw hK
  obtain ⟨xs, hq, hx⟩ := hg
  obtain ⟨its, rv, p, hz⟩ := I.list hq
  obtain ⟨g0, g1, g2, g3, g4, g5⟩ := hf it (by simp)
  obtain ⟨⟨old, s1⟩, s2⟩ := st
  have hl := rv.length
  exact wpAny_pyNext_enum_end (I.ok.hd hc) s1 s2 p.isList (by simp; omega) fun h' eb => ⟨rfl, I.turned (t' := s.toks) (fun b o hb q => eb b o hb q) g0 g1 g3 g4 g5⟩
 self := fun A i s Q E st h => by
  obtain ⟨⟨old, s1⟩, s2⟩ := st
  have hT : s.TypeIs (.ref e) "enumerate" := ⟨_, s1, rfl⟩
  refine wpAny_pyIter_slot hT PySem.F.slot_enumerate_iter (wpAny_call_entry PySem.F.slot_enumerate_iter hT PySem.F.entry_enumerate_iter ?_ (PySem.F.args_enumerate_iter_1 _))
  show wpAny _ _ (ret (.ref e)) _ _ s
  exact wpAny_pure ⟨_, rfl, "enumerate", _, hT, PySem.F.slot_enumerate_next.lookup, h⟩
def vF (K : PySem.W.Frag) (ta : TA) : TI := fun σ H R => ta σ H fun vs H1 => ∃ a, vs = [.ref a] /\ (∃ xs, SqL K H1 a xs) /\ R (Ite K a) H1
theorem sM {a : Expr} {ta : TA} {p pos : Pos} {elts : List Expr} {x1} {tp : Pos} (hg : Gl X "enumerate") (hm : X.mg "enumerate" = none) (ha : PA X [a] ta) (hs : starEach [a] X.env = [(false, eval a X.env)] := by rfl) : PI X (.Tuple elts x1 tp) (.Call (.Name "enumerate" p) [a] [] pos) (vF X.K ta) := by
 intro pins s σ H R I h
 refine Call_ (eB I hg hm (u := .type "enumerate") (by decide +kernel) (PyProof.Rows.callWith_type1 (thn (ha pos pins s σ H _ I h) fun us s1 ⟨vs, H1, I1, r1, q1⟩ => ?_) hs rfl))
 obtain ⟨l, e, ⟨xs, hq⟩, q⟩ := q1
 subst e
 cases r1 with
 | cons r rr =>
  cases rr
  cases r
  obtain ⟨its, rv, p, hz⟩ := I1.list hq
  refine call_enumerate_list p.isList fun h' he hit hsz kp => ?_
  have I2 : Inv X pins σ H1 { s1 with heap := h' } := I1.kept (t' := s1.toks) kp
  have T : jC X.prog X.w X.K (.Tuple elts x1 tp) (Ite X.K l) [s1.heap.objs.size + 1, s1.heap.objs.size] (s1.heap.objs.size + 1) (fun i h => (∃ old, IsEnum h (s1.heap.objs.size + 1) s1.heap.objs.size i old) /\ h.IsListIter s1.heap.objs.size l i) := oU l _ _ (vP _)
  refine T.self X.A 0 { s1 with heap := h' } _ _ ⟨⟨_, he⟩, hit⟩ ?_
  refine ⟨s1.heap.objs.size + 1, _, _, _, H1, rfl, I2, T, ⟨⟨_, he⟩, hit⟩, fun b hb => ?_, q⟩
  have hb' : s1.heap.objs.size <= b := by
   rcases List.mem_cons.mp hb with rfl | hb
   ·exact Nat.le_succ _
   ·have e' : b = s1.heap.objs.size := by simpa using hb
    subst e'; exact Nat.le_refl _
  obtain ⟨f0, f1⟩ := I1.fpOk hb' (I1.hok.fresh hb')
  exact ⟨f0, f1⟩
end
section
variable {X : Cx}
theorem kt {s : Shared} {h' : Heap} {o : Obj} (hk : ∀ b x, b ∉ [s.heap.objs.size] -> (s.heap.push o).get? b = some x -> h'.get? b = some x) (b : Addr) (x : Obj) (e : s.heap.get? b = some x) : h'.get? b = some x :=
 hk b x (fun z => by rw [List.mem_singleton.mp z] at e; exact Nat.lt_irrefl _ (Heap.lt_size e)) (Heap.get?_push_of_some _ e)
theorem lG : ∀ {bs : List Bool} {us : List Value}, aF (bs.map V.bl) us -> ∀ (i : Nat) (v : Value), us[i]? = some v -> ∃ b, bs[i]? = some b /\ v = .bool b
 | [], _, .nil, i, v, e => by simp at e
 | b :: bs, u :: us, .cons r t, 0, v, e => by
  have e' : u = v := by simpa using e
  subst e'
  exact ⟨b, rfl, r⟩
 | b :: bs, u :: us, .cons r t, i + 1, v, e => lG (bs := bs) t i v (by simpa using e)
theorem pX (hc : X.calm = true) : cA X (.builtin "all") (fun xs H Q => ∃ (a : Addr) (bs : List Bool), xs = [.ref a] /\ SqL X.K H a (bs.map V.bl) /\ Q (.bl (bs.all id)) H) := by
 intro pins s σ H xs us Q I r h
 obtain ⟨a, bs, rfl, hq, q⟩ := h
 obtain ⟨u, rfl, ru⟩ := cT r
 cases ru
 obtain ⟨its, rv, p, hz⟩ := I.list hq
 have hl := p.isList
 have hlt : a < s.heap.objs.size := by obtain ⟨_, e, _⟩ := hl; exact Heap.lt_size e
 refine call_all_walk (wpAny_pyIter_list hl ?_)
 refine ⟨s.heap.objs.size, [s.heap.objs.size, a], [s.heap.objs.size], its.toArray.size, _, _, fun i => (bs[i]?).getD true, rfl, Walks.list (A := X.A.in1) (I.ok.hd hc) _ a (Nat.ne_of_lt hlt) its.toArray,
  ⟨⟨_, Heap.get?_push_size _ rfl, rfl, rfl⟩, hl.push _⟩, fun i v s' Q' E' hP hQ => ?_, fun h' tk hk => ?_⟩
 ·obtain ⟨b, e, rfl⟩ := lG rv i v (by simpa using hP)
  simp only [e, Option.getD_some] at hQ
  exact wpAny_truthy_bool hQ
 ·have hlen := rv.length
  have e : ((List.range its.toArray.size).all fun i => (bs[i]?).getD true) = bs.all id := by
   rw [List.size_toArray, <- hlen, List.length_map, Bool.eq_iff_iff, List.all_eq_true, List.all_eq_true]
   constructor
   ·intro z b hb
    obtain ⟨i, hi, rfl⟩ := List.getElem_of_mem hb
    have := z i (List.mem_range.mpr hi)
    simpa [hi] using this
   ·intro z i hi
    have hi' := List.mem_range.mp hi
    rw [List.getElem?_eq_getElem hi']
    exact z _ (List.getElem_mem hi')
  rw [e]
  exact ⟨.bl _, H, I.kept (kt hk), rfl, q⟩
theorem cM : cA X (.builtin "isinstance") (fun xs H Q => ∃ x t n b, xs = [x, .ty n] /\ cY X.K H x t /\ PySem.W.kitOne X.K t (.type n) = some b /\ Q (.bl b) H) := by
 intro pins s σ H xs us Q I r h
 obtain ⟨x, t, n, b, rfl, ty, e, q⟩ := h
 obtain ⟨u, w', rfl, rx, rn⟩ := tJ r
 cases rn
 exact oq I rx ty e fun tk => ⟨.bl b, H, I.tok tk, rfl, q⟩
end
open PySem PySem.Spec PyProof.Rows PySem.W
section
variable {cmp : Nat -> Nat -> (Bool -> Shared -> Prop) -> Shared -> Prop} {lt : Nat -> Nat -> Bool} {n : Nat} {s : Shared}
structure Ord (cmp : Nat -> Nat -> (Bool -> Shared -> Prop) -> Shared -> Prop) (lt : Nat -> Nat -> Bool) (n : Nat) (s : Shared) : Prop where
 ask : ∀ i j C, i < n -> j < n -> i ≠ j -> C (lt i j) s -> cmp i j C s
 tr : ∀ i j k, lt i j = true -> lt j k = true -> lt i k = true
 tot : ∀ i j, i < n -> j < n -> i ≠ j -> lt i j = false -> lt j i = true
 asym : ∀ i j, lt i j = true -> lt j i = false
structure Re (n : Nat) (p : Array Nat) : Prop where
 size : p.size = n
 lt : ∀ i, i < n -> p.getD i 0 < n
 inj : ∀ i j, i < n -> j < n -> i ≠ j -> p.getD i 0 ≠ p.getD j 0
 perm : p.Perm (List.toArray (List.range n))
theorem Re.of_perm {p : Array Nat} (h : p.Perm (List.toArray (List.range n))) : Re n p := by
 have hs : p.size = n := by have := h.size_eq; simpa using this
 have hl : p.toList.Perm (List.range n) := by simpa using Array.perm_iff_toList_perm.mp h
 have nd : p.toList.Nodup := (List.Perm.nodup_iff hl).mpr List.nodup_range
 have get : ∀ i, (hi : i < n) -> p.getD i 0 = p.toList[i]'(by simpa [hs] using hi) := fun i hi => by
  simp [Array.getD, hs, hi]
 refine ⟨hs, fun i hi => ?_, fun i j hi hj hij e => ?_, h⟩
 ·have hm : p.getD i 0 ∈ p.toList := by rw [get i hi]; exact List.getElem_mem _
  exact List.mem_range.mp ((List.Perm.mem_iff hl).mp hm)
 ·rw [get i hi, get j hj] at e
  exact hij ((List.getElem_inj nd).mp e)
def Up (lt : Nat -> Nat -> Bool) (p : Array Nat) (m : Nat) : Prop := ∀ i j, i < j -> j < m -> lt (p.getD i 0) (p.getD j 0) = true
def Dn (lt : Nat -> Nat -> Bool) (p : Array Nat) (m : Nat) : Prop := ∀ i j, i < j -> j < m -> lt (p.getD j 0) (p.getD i 0) = true
theorem Up.next {p : Array Nat} {m : Nat} (O : Ord cmp lt n s) (h : Up lt p m) (h1 : 1 <= m) (hq : lt (p.getD (m - 1) 0) (p.getD m 0) = true) : Up lt p (m + 1) := fun i j hij hj => by
 by_cases e : j = m
 ·subst e
  by_cases e2 : i = j - 1
  ·subst e2; exact hq
  ·exact O.tr _ _ _ (h i (j - 1) (by omega) (by omega)) hq
 ·exact h i j hij (by omega)
theorem Dn.next {p : Array Nat} {m : Nat} (O : Ord cmp lt n s) (h : Dn lt p m) (h1 : 1 <= m) (hq : lt (p.getD m 0) (p.getD (m - 1) 0) = true) : Dn lt p (m + 1) := fun i j hij hj => by
 by_cases e : j = m
 ·subst e
  by_cases e2 : i = j - 1
  ·subst e2; exact hq
  ·exact O.tr _ _ _ hq (h i (j - 1) (by omega) (by omega))
 ·exact h i j hij (by omega)
theorem gn {p : Array Nat} {Q : Nat -> Shared -> Prop} (O : Ord cmp lt n s) (r : Re n p) : ∀ (f m : Nat), 1 <= m -> m + f <= n -> Up lt p m -> (∀ m', m <= m' -> m' <= m + f -> Up lt p m' -> (m' = m + f \/ lt (p.getD m' 0) (p.getD (m' - 1) 0) = true) -> Q m' s) -> (kas_asc p f m).kasWp cmp Q s
 | 0, m, h1, hm, u, q => q m (Nat.le_refl _) (Nat.le_refl _) u (.inl rfl)
 | f + 1, m, h1, hm, u, q => by
  show cmp _ _ _ s
  refine O.ask _ _ _ (r.lt m (by omega)) (r.lt (m - 1) (by omega)) (r.inj _ _ (by omega) (by omega) (by omega)) ?_
  cases c : lt (p.getD m 0) (p.getD (m - 1) 0) with
  | true =>
   show (KasT.ret m).kasWp cmp Q s
   exact q m (Nat.le_refl _) (by omega) u (.inr c)
  | false =>
   show (kas_asc p f (m + 1)).kasWp cmp Q s
   have hq := O.tot _ _ (r.lt m (by omega)) (r.lt (m - 1) (by omega)) (r.inj _ _ (by omega) (by omega) (by omega)) c
   refine gn O r f (m + 1) (by omega) (by omega) (u.next O h1 hq) fun m' a b c d => q m' (by omega) (by omega) c ?_
   rcases d with d | d
   ·exact .inl (by omega)
   ·exact .inr d
theorem nC {p : Array Nat} {Q : Array Nat × Nat × Nat -> Shared -> Prop} (O : Ord cmp lt n s) (r : Re n p) : ∀ (f m : Nat), 1 <= m -> m + f <= n -> Dn lt p m -> (∀ m', m <= m' -> m' <= m + f -> Dn lt p m' -> Q (p, m', 0) s) -> (kas_desc f p m 0).kasWp cmp Q s
 | 0, m, h1, hm, u, q => q m (Nat.le_refl _) (Nat.le_refl _) u
 | f + 1, m, h1, hm, u, q => by
  show cmp _ _ _ s
  refine O.ask _ _ _ (r.lt m (by omega)) (r.lt (m - 1) (by omega)) (r.inj _ _ (by omega) (by omega) (by omega)) ?_
  cases c : lt (p.getD m 0) (p.getD (m - 1) 0) with
  | true =>
   show (kas_desc f p (m + 1) 0).kasWp cmp Q s
   exact nC O r f (m + 1) (by omega) (by omega) (u.next O h1 c) fun m' a b c => q m' (by omega) (by omega) c
  | false =>
   show cmp _ _ _ s
   refine O.ask _ _ _ (r.lt (m - 1) (by omega)) (r.lt m (by omega)) (r.inj _ _ (by omega) (by omega) (by omega)) ?_
   rw [O.tot _ _ (r.lt m (by omega)) (r.lt (m - 1) (by omega)) (r.inj _ _ (by omega) (by omega) (by omega)) c]
   show (KasT.ret (p, m, 0)).kasWp cmp Q s
   exact q m (Nat.le_refl _) (by omega) u
theorem np {p : Array Nat} {m k : Nat} (hm : m <= p.size) : (kas_rev p 0 m).getD k 0 = if k < m then p.getD (m - 1 - k) 0 else p.getD k 0 := by
 have h := getElem?_mirror_all (xs := p) (i := 0) (j := m) hm k
 have e1 : ∀ (a : Array Nat) (i : Nat), a.getD i 0 = (a[i]?).getD 0 := fun a i => by rw [Array.getD_eq_getD_getElem?]
 rw [e1]
 unfold kas_rev
 rw [h]
 by_cases hk : k < m
 ·rw [if_pos hk]
  simp only [e1]
  rw [if_pos (by omega)]
  congr 2
  omega
 ·rw [if_neg hk]
  simp only [e1]
  rw [if_neg (by omega)]
theorem qw {p : Array Nat} {m : Nat} (r : Re n p) : Re n (kas_rev p 0 m) := Re.of_perm ((mirror_perm p 0 m _).trans r.perm)
theorem im {Q : Nat × Array Nat -> Shared -> Prop} {p : Array Nat} (O : Ord cmp lt n s) (r : Re n p) (h2 : 2 <= n) (q : ∀ m p', Re n p' -> 1 <= m -> m <= n -> Up lt p' m -> Q (m, p') s) : (kas_count n p).kasWp cmp Q s := by
 unfold kas_count
 rw [KasT.kasWp_bind]
 refine gn O r (n - 1) 1 (Nat.le_refl _) (by omega) (fun i j h1 h2 => by omega) fun m a b u e => ?_
 by_cases hm : (m == n) = true
 ·rw [if_pos hm]
  exact q m p r a (by omega) u
 ·rw [if_neg hm]
  have hmn : m ≠ n := by simpa using hm
  by_cases h1 : m > 1
  ·rw [if_pos h1]
   show cmp _ _ _ s
   refine O.ask _ _ _ (r.lt 0 (by omega)) (r.lt (m - 1) (by omega)) (r.inj _ _ (by omega) (by omega) (by omega)) ?_
   rw [u 0 (m - 1) (by omega) (by omega)]
   show (KasT.ret (m, p)).kasWp cmp Q s
   exact q m p r a (by omega) u
  ·rw [if_neg h1]
   have e1 : m = 1 := by omega
   subst e1
   have hd : lt (p.getD 1 0) (p.getD 0 0) = true := by
    rcases e with e | e
    ·omega
    ·exact e
   unfold kas_descPart
   rw [KasT.kasWp_bind]
   refine nC O r (n - (1 + 1)) (1 + 1) (by omega) (by omega) (fun i j h1 h2 => ?_) fun m' a' b' dn => ?_
   ·have : i = 0 := by omega
    have : j = 1 := by omega
    subst_vars
    exact hd
   ·show (if (0 : Nat) > 0 then _ else kas_tail3 m' n p).kasWp cmp Q s
    rw [if_neg (by omega)]
    unfold kas_tail3
    rw [KasT.kasWp_bind]
    have up : Up lt (kas_rev p 0 m') m' := fun i j hij hj => by
     rw [np (by rw [r.size]; omega), np (by rw [r.size]; omega), if_pos (by omega), if_pos (by omega)]
     exact dn _ _ (by omega) (by omega)
    refine gn O (qw r) (n - m') m' (by omega) (by omega) up fun m2 a2 b2 u2 _ => ?_
    exact q m2 _ (qw r) (by omega) (by omega) u2
theorem gW {p : Array Nat} {k : Nat} {Q : Nat -> Shared -> Prop} (O : Ord cmp lt n s) (r : Re n p) (hk : k < n) (u : Up lt p k) (q : ∀ l, l <= k -> (∀ i, i < l -> lt (p.getD i 0) (p.getD k 0) = true) -> (∀ i, l <= i -> i < k -> lt (p.getD k 0) (p.getD i 0) = true) -> Q l s) :
  ∀ (f l e : Nat), l <= e -> e <= k -> e - l <= f -> (∀ i, i < l -> lt (p.getD i 0) (p.getD k 0) = true) -> (∀ i, e <= i -> i < k -> lt (p.getD k 0) (p.getD i 0) = true) -> (kas_place p k f l e).kasWp cmp Q s
 | 0, l, e, h1, h2, h3, a, b => q l (by omega) a fun i hi hk' => b i (by omega) hk'
 | f + 1, l, e, h1, h2, h3, a, b => by
  show (if l >= e then KasT.ret l else _).kasWp cmp Q s
  by_cases h : l >= e
  ·rw [if_pos h]
   exact q l (by omega) a fun i hi hk' => b i (by omega) hk'
  ·rw [if_neg h]
   show cmp _ _ _ s
   have hm : (l + e) / 2 < k := by omega
   refine O.ask _ _ _ (r.lt k hk) (r.lt _ (by omega)) (r.inj _ _ hk (by omega) (by omega)) ?_
   cases c : lt (p.getD k 0) (p.getD ((l + e) / 2) 0) with
   | true =>
    show (kas_place p k f l ((l + e) / 2)).kasWp cmp Q s
    refine gW O r hk u q f l _ (by omega) (by omega) (by omega) a fun i hi hk' => ?_
    by_cases ei : i = (l + e) / 2
    ·subst ei; exact c
    ·exact O.tr _ _ _ c (u _ i (by omega) hk')
   | false =>
    show (kas_place p k f ((l + e) / 2 + 1) e).kasWp cmp Q s
    have c' := O.tot _ _ (r.lt k hk) (r.lt _ (by omega)) (r.inj _ _ hk (by omega) (by omega)) c
    refine gW O r hk u q f _ e (by omega) h2 (by omega) (fun i hi => ?_) b
    by_cases ei : i = (l + e) / 2
    ·subst ei; exact c'
    ·exact O.tr _ _ _ (u i _ (by omega) hm) c'
theorem nk {p : Array Nat} {k d j : Nat} (hk : k < p.size) (hd : d <= k) : (bubble p k d).getD j 0 = if j < k - d \/ k < j then p.getD j 0 else if j = k - d then p.getD k 0 else p.getD (j - 1) 0 := by
 have e1 : ∀ (a : Array Nat) (i : Nat), a.getD i 0 = (a[i]?).getD 0 := fun a i => by rw [Array.getD_eq_getD_getElem?]
 have h := getElem?_bubble (xs := p) (src := k) hk d hd j
 rw [e1, h]
 by_cases a : j = k - d
 ·rw [if_pos a, if_neg (by omega), if_pos a, e1]
 ·rw [if_neg a]
  by_cases b : k - d < j /\ j <= k
  ·rw [if_pos b, if_neg (by omega), if_neg a, e1]
  ·rw [if_neg b, if_pos (by omega), e1]
theorem gK {Q : Array Nat -> Shared -> Prop} (O : Ord cmp lt n s) (q : ∀ p, Re n p -> Up lt p n -> Q p s) : ∀ (f k : Nat) (p : Array Nat), Re n p -> 1 <= k -> k + f = n -> Up lt p k -> (kas_bin f p k).kasWp cmp Q s
 | 0, k, p, r, h1, hn, u => q p r (by rw [<- hn]; exact u)
 | f + 1, k, p, r, h1, hn, u => by
  show ((kas_place p k k 0 k).bind fun l => kas_bin f (bubble p k (k - l)) (k + 1)).kasWp cmp Q s
  rw [KasT.kasWp_bind]
  refine gW O r (by omega) u (fun l hl a b => ?_) k 0 k (Nat.zero_le _) (Nat.le_refl _) (by omega) (fun i hi => by omega) (fun i h1 h2 => by omega)
  have hks : k < p.size := by rw [r.size]; omega
  refine gK O q f (k + 1) _ (Re.of_perm ((bubble_perm p k _).trans r.perm)) (by omega) (by omega) fun i j hij hj => ?_
  rw [nk hks (by omega), nk hks (by omega)]
  have ek : k - (k - l) = l := by omega
  rw [ek]
  by_cases hi : i < l
  ·rw [if_pos (.inl hi)]
   by_cases hj2 : j < l
   ·rw [if_pos (.inl hj2)]; exact u i j hij (by omega)
   ·rw [if_neg (by omega)]
    by_cases hj3 : j = l
    ·rw [if_pos hj3]; exact a i hi
    ·rw [if_neg hj3]; exact u i (j - 1) (by omega) (by omega)
  ·rw [if_neg (by omega)]
   by_cases hi2 : i = l
   ·rw [if_pos hi2, if_neg (by omega), if_neg (by omega)]
    exact b (j - 1) (by omega) (by omega)
   ·rw [if_neg hi2, if_neg (by omega), if_neg (by omega)]
    exact u (i - 1) (j - 1) (by omega) (by omega)
theorem rE {Q : Array Nat -> Shared -> Prop} (O : Ord cmp lt n s) (h2 : 2 <= n) (q : ∀ p, Re n p -> Up lt p n -> Q p s) : (kas_sort n).kasWp cmp Q s := by
 unfold kas_sort
 rw [KasT.kasWp_bind]
 refine im O (Re.of_perm (Array.Perm.refl _)) h2 fun m p r h1 hm u => ?_
 show (if m < n then kas_bin (n - max m 1) p (max m 1) else .ret p).kasWp cmp Q s
 have em : max m 1 = m := by omega
 rw [em]
 by_cases h : m < n
 ·rw [if_pos h]
  exact gK O q (n - m) m p r h1 (by omega) u
 ·rw [if_neg h]
  have : m = n := by omega
  subst this
  exact q p r u
end
theorem eU {prog : Program} {w : World} {A : Around} {E : Value -> Shared -> Prop} {st : Shared} {l : Addr} {us : List Value} {ep : Nat} {R : PySem.Fin -> Shared -> Prop} (at0 : st.heap.get? l = some (seqObj "list" us.toArray ep)) (few : us.length < 2)
  (fin : ∀ hp ep', (∀ b o, b ≠ l -> st.heap.get? b = some o -> hp.get? b = some o) -> hp.get? l = some (seqObj "list" us.toArray ep') -> R (.done (.ret .none)) { st with heap := hp }) :
  wpAny (model prog w) A (Builtin.«list.sort» ⟨[.ref l], []⟩) R E st := by
 have sz : us.toArray.size = us.length := by simp
 have lt0 : l < st.heap.objs.size := Heap.lt_size at0
 have line : us.length <= sizeLine := by rw [sizeLine_eq]; omega
 rw [list_sort_plain]
 refine wpAny_bind (listItems_at at0 rfl (wpAny_bind (listUpdate_at at0 rfl ?_ (by rw [sz]; exact line) (Nat.zero_le _))))
 have at1 := get?_update_seq at0 (fun _ => (#[] : Array Value))
 refine wpAny_bind (seqEpoch_at at1 rfl (wpAny_bind (wpAny_newTuple ?_ (by show us.length <= _; exact line))))
 refine wpAny_bind (wpAny_newList ?_ (Nat.zero_le _))
 refine wpAny_holding ?_
 rw [if_pos (by rw [sz]; exact few), if_pos (by rw [sz]; exact few)]
 show wpAny (model prog w) A _ R E { st with heap := ((st.heap.update l (Obj.mapSeq fun _ => (#[] : Array Value))).push (seqObj "tuple" us.toArray 0)).push (seqObj "list" #[] 0) }
 have at2 : (((st.heap.update l (Obj.mapSeq fun _ => (#[] : Array Value))).push (seqObj "tuple" us.toArray 0)).push (seqObj "list" #[] 0)).get? l = some (seqObj "list" #[] (if ((#[] : Array Value).size == us.toArray.size) = true then ep else ep + 1)) := by
  rw [Heap.get?_push_ne _ _ _ (by rw [size_push', Heap.size_update]; exact js lt0), Heap.get?_push_ne _ _ _ (by rw [Heap.size_update]; exact nlt lt0)]
  exact at1
 have all : (arrOf (SortSt.mk' general' (us.toArray.zip us.toArray) #[] 7 none)).map (·.2) = us.toArray := by
  show (us.toArray.zip us.toArray).map (·.2) = us.toArray
  apply Array.ext'
  simp [List.map_snd_zip]
 have at3 := get?_update_seq at2 (fun _ => us.toArray)
 refine wpAny_bind (wpAny_pure ?_)
 dsimp only
 rw [StateT.run_pure]
 refine wpAny_bind (wpAny_pure ?_)
 dsimp only
 refine wpAny_bind (seqEpoch_at at2 rfl ?_)
 refine wpAny_bind (listUpdate_at at2 rfl ?_ (Nat.zero_le _) (by rw [all, sz]; omega))
 simp only [bne_self_eq_false, Bool.false_eq_true, if_false]
 rw [all]
 refine wpAny_pure (fin _ _ (fun b o hb e => ?_) at3)
 rw [Heap.get?_update_ne _ _ _ _ hb, Heap.get?_push_ne _ _ _ (by rw [size_push', Heap.size_update]; exact js (Heap.lt_size e)), Heap.get?_push_ne _ _ _ (by rw [Heap.size_update]; exact nlt (Heap.lt_size e)), Heap.get?_update_ne _ _ _ _ hb]
 exact e
theorem tX {h : Heap} {a : Addr} {m m' : Str -> Option Value} (x : h.Ns a m) (y : h.Ns a m') : m = m' := by
 obtain ⟨o, es, ep, e, d, _, f⟩ := x
 obtain ⟨o', es', ep', e', d', _, f'⟩ := y
 rw [e] at e'
 cases e'
 rw [d] at d'
 cases d'
 funext z
 rw [<- f z, f' z]
theorem nE {a b : List Nat} (h : ¬ a < b) (h2 : a ≠ b) : b < a := by
 by_cases h3 : b < a
 ·exact h3
 ·exact absurd (List.le_antisymm (List.not_lt.mp h3) (List.not_lt.mp h)) h2
theorem oi {a b : Str} (h : a.cps.toList = b.cps.toList) : a = b := by
 cases a
 cases b
 congr 1
 exact Array.ext' h
section
variable {X : Cx} {pins : List (Addr × Obj)} {σ : St} {H : Hp} {s : Shared}
abbrev TK := Addr × Str × List V
def uA (p q : TK) : Prop := p.2.1.cps.toList < q.2.1.cps.toList
theorem sE (ps : List TK) : ∀ (us : List Value), aF (ps.map fun p => V.ref p.1) us -> us = ps.map fun p => Value.ref p.1 := by
 induction ps with
 | nil =>
  intro us r
  cases r
  rfl
 | cons p ps ih =>
  intro us r
  rw [List.map_cons] at r ⊢
  cases r with
  | cons r t =>
   rw [ih _ t, show _ = Value.ref p.1 from r]
theorem gf (ps : List TK) : aF (ps.map fun p => V.ref p.1) (ps.map fun p => Value.ref p.1) := by
 induction ps with
 | nil => exact .nil
 | cons p ps ih => exact .cons rfl ih
theorem pQ (I : Inv X pins σ H s) {a : Addr} {x : Str} {r : List V} (h : H a = some (.tup (.str x :: r))) : ∃ (o : Obj) (us : List Value) (n : Nat) (t : Tok), s.heap.get? a = some o /\ o.cls = .type "tuple" /\ o.data = .seq (Value.str x t :: us).toArray n := by
 obtain ⟨_, its, rv, ⟨o, e, c, n, d⟩, _⟩ := (show aU X.prog X.w H s.heap a (.tup (.str x :: r)) from I.hok a _ h)
 cases rv with
 | cons r1 r2 =>
  obtain ⟨t, rfl⟩ := r1
  exact ⟨o, _, n, t, e, c, d⟩
theorem oW {n : Nat} {p : Array Nat} {α : Type} {d : α} {ps : List α} (hn : ps.length = n) (r : Re n p) : (p.toList.map fun i => ps.getD i d).Perm ps := by
 have hl : p.toList.Perm (List.range n) := by simpa using Array.perm_iff_toList_perm.mp r.perm
 refine (hl.map _).trans ?_
 have e : (List.range n).map (fun i => ps.getD i d) = ps := by
  apply List.ext_getElem?
  intro i
  rw [List.getElem?_map]
  by_cases hi : i < n
  ·rw [List.getElem?_range hi]
   simp [List.getD, show i < ps.length by omega]
  ·rw [List.getElem?_eq_none (by simpa using hi), List.getElem?_eq_none (by omega)]
   rfl
 rw [e]
theorem iE {n : Nat} {p : Array Nat} {α : Type} {d : α} {ps : List α} {R : α -> α -> Prop} {lt : Nat -> Nat -> Bool} (hlt : ∀ i j, i < n -> j < n -> lt i j = true -> R (ps.getD i d) (ps.getD j d)) (r : Re n p) (u : Up lt p n) : (p.toList.map fun i => ps.getD i d).Pairwise R := by
 rw [List.pairwise_iff_getElem]
 intro i j hi hj hij
 rw [List.length_map, Array.length_toList, r.size] at hi hj
 have get : ∀ k (hk : k < n) h, (p.toList.map fun i => ps.getD i d)[k]'h = ps.getD (p.getD k 0) d := fun k hk h => by
  rw [List.getElem_map]
  congr 1
  simp [Array.getD, r.size, hk]
 rw [get i hi, get j hj]
 exact hlt _ _ (r.lt i hi) (r.lt j hj) (u i j hij hj)
end
open PySem PySem.Spec PyProof.Rows
def vd (N : List Str) (sc scope : Scope) (ix : List Nat) : Bool :=
 decide (scope.kind = .function) && scope.names.all (fun y => decide (y.2 ≠ .cell)) && scope.names.all (fun y => decide (y.2 = .local -> scope.names.lookup y.1 = some .local)) &&
 scope.names.all (fun y => decide (y.2 = .free -> sc.names.lookup y.1 = some .cell \/ sc.names.lookup y.1 = some .free)) &&
 ix.all (fun j => decide (j < N.length) && match N[j]? with | some x => scope.names.any (fun y => decide (y.1 = x) && decide (y.2 = .free)) && decide (scope.names.lookup x = some .free) | none => false)
theorem cS.of {N : List Str} {sc scope : Scope} {own : List Str} {ix : List Nat} (h : vd N sc scope ix = true) : cS N sc scope own ix := by
 unfold vd at h
 simp only [Bool.and_eq_true, decide_eq_true_eq, List.all_eq_true] at h
 obtain ⟨⟨⟨⟨h1, h2⟩, h3⟩, h4⟩, h5⟩ := h
 refine ⟨h1, h2, h3, h4, fun j hj x hx => ?_, fun j hj => (h5 j hj).1⟩
 have := (h5 j hj).2
 rw [hx] at this
 simp only [Bool.and_eq_true, decide_eq_true_eq, List.any_eq_true] at this
 obtain ⟨⟨⟨n, k⟩, hy, e1, e2⟩, e3⟩ := this
 have e1' : n = x := e1
 have e2' : k = .free := e2
 subst e1' e2'
 exact ⟨hy, e3⟩
theorem cX {l N : List Str} (h : l.Nodup) (e : N = l) : N.Nodup := by rw [e]; exact h
structure Def (P : Program) (w : World) (K : PySem.W.Frag) (mg : Str -> Option Value) (base : Heap) (k : Nat) (x : Str) (ps : List Str) (sp : Sp) : Prop where
 ex : ∃ f fd, bg P w K mg base CX0 k f fd ps sp /\ gu K fd ps [] /\ PySem.W.keepIn K (.ref f) = true /\ mg x = some (.ref f)
theorem Def.up {P : Program} {w : World} {K : PySem.W.Frag} {mg : Str -> Option Value} {base : Heap} {j k : Nat} {x : Str} {ps : List Str} {sp : Sp} (d : Def P w K mg base j x ps sp) (h : j <= k) : Def P w K mg base k x ps sp :=
 let ⟨f, fd, F, b, kp, m⟩ := d.ex
 ⟨f, fd, F.mono h, b, kp, m⟩
theorem av {X : Cx} {k : Nat} {x : Str} {ps : List Str} {sp : Sp} {p pos : Pos} {e : Expr} {es : List Expr} {t : TA} (d : Def X.prog X.w X.K X.mg X.base k x ps sp) (hr : dj k X.A) (hg : Gl X x) (ha : PA X (e :: es) t) (hdb : (x == ("__debug__" : Str)) = false := by decide)
  (he : starEach (e :: es) X.env = (false, eval e X.env) :: starEach es X.env := by rfl) (hpl : (backTo pos (starEach es X.env)).any (·.1) = false := by rfl) : PE X (.Call (.Name x p) (e :: es) [] pos) (tF sp [] E0 t) := by
 obtain ⟨f, fd, F, b, kp, m⟩ := d.ex
 exact sA F hr hg m kp b .nil tL ha hdb he hpl
inductive Dv where
 | non | bl (b : Bool) | int (i : Int) | str (x : Str) | tup (xs : List Dv) | lst (xs : List Dv) | dct
mutual
def Rep (H : Hp) : Dv -> V -> Prop
 | .non, v => v = .non
 | .bl b, v => v = .bl b
 | .int i, v => v = .int i
 | .str x, v => v = .str x
 | .tup ds, v => ∃ a vs, v = .ref a /\ H a = some (.tup vs) /\ Reps H ds vs
 | .lst ds, v => ∃ a vs, v = .ref a /\ H a = some (.lst vs) /\ Reps H ds vs
 | .dct, v => ∃ a, v = .ref a /\ H a = some (.dK [])
def Reps (H : Hp) : List Dv -> List V -> Prop
 | [], vs => vs = []
 | d :: ds, vs => ∃ v r, vs = v :: r /\ Rep H d v /\ Reps H ds r
end
mutual
theorem Rep.mono {H H' : Hp} (s : az H H') : ∀ {d : Dv} {v : V}, Rep H d v -> Rep H' d v
 | .non, _, h => by simpa only [Rep] using h
 | .bl b, _, h => by simpa only [Rep] using h
 | .int i, _, h => by simpa only [Rep] using h
 | .str x, _, h => by simpa only [Rep] using h
 | .tup ds, _, h => by
  simp only [Rep] at h ⊢
  obtain ⟨a, vs, e, h1, h2⟩ := h
  exact ⟨a, vs, e, s _ _ h1, Reps.mono s h2⟩
 | .lst ds, _, h => by
  simp only [Rep] at h ⊢
  obtain ⟨a, vs, e, h1, h2⟩ := h
  exact ⟨a, vs, e, s _ _ h1, Reps.mono s h2⟩
 | .dct, _, h => by
  simp only [Rep] at h ⊢
  obtain ⟨a, e, h1⟩ := h
  exact ⟨a, e, s _ _ h1⟩
theorem Reps.mono {H H' : Hp} (s : az H H') : ∀ {ds : List Dv} {vs : List V}, Reps H ds vs -> Reps H' ds vs
 | [], _, h => by simpa only [Reps] using h
 | d :: ds, _, h => by
  simp only [Reps] at h ⊢
  obtain ⟨v, r, e, h1, h2⟩ := h
  exact ⟨v, r, e, Rep.mono s h1, Reps.mono s h2⟩
end
theorem Reps.length {H : Hp} : ∀ {ds : List Dv} {vs : List V}, Reps H ds vs -> vs.length = ds.length
 | [], _, h => by simp only [Reps] at h; subst h; rfl
 | d :: ds, _, h => by
  simp only [Reps] at h
  obtain ⟨v, r, e, h1, h2⟩ := h
  subst e
  rw [List.length_cons, List.length_cons, Reps.length h2]
theorem Reps.get {H : Hp} : ∀ {ds : List Dv} {vs : List V}, Reps H ds vs -> ∀ {i : Nat} {v : V}, vs[i]? = some v -> ∃ d, ds[i]? = some d /\ Rep H d v
 | [], _, h, i, v, e => by simp only [Reps] at h; subst h; simp at e
 | d :: ds, _, h, i, v, e => by
  simp only [Reps] at h
  obtain ⟨v', r, e', h1, h2⟩ := h
  subst e'
  cases i with
  | zero => exact ⟨d, rfl, by have : v' = v := by simpa using e
                              subst this; exact h1⟩
  | succ i => obtain ⟨d', e1, e2⟩ := Reps.get h2 (i := i) (v := v) (by simpa using e); exact ⟨d', by simpa using e1, e2⟩
def Dv.tn : Dv -> String
 | .non => "NoneType" | .bl _ => "bool" | .int _ => "int" | .str _ => "str" | .tup _ => "tuple" | .lst _ => "list" | .dct => "dict"
theorem Rep.ty {K : PySem.W.Frag} {H : Hp} {d : Dv} {v : V} (h : Rep H d v) : cY K H v (.type d.tn) := by
 cases d with
 | non => simp only [Rep] at h; subst h; exact .non
 | bl b => simp only [Rep] at h; subst h; exact .bl b
 | int i => simp only [Rep] at h; subst h; exact .int i
 | str x => simp only [Rep] at h; subst h; exact .str x
 | tup ds => simp only [Rep] at h; obtain ⟨a, vs, rfl, h1, _⟩ := h; exact .tup h1
 | lst ds => simp only [Rep] at h; obtain ⟨a, vs, rfl, h1, _⟩ := h; exact .lst h1
 | dct => simp only [Rep] at h; obtain ⟨a, rfl, h1⟩ := h; exact .dK h1
def isT (d : Dv) (n : String) : Bool := d.tn == n || (d.tn == "bool" && n == "int")
theorem sS (K : PySem.W.Frag) (d : Dv) : PySem.W.kitOne K (.type d.tn) (.type "int") = some (isT d "int") := by
 unfold PySem.W.kitOne PySem.W.kitCls
 cases d <;> kernel_rfl
theorem qb (K : PySem.W.Frag) (d : Dv) : PySem.W.kitOne K (.type d.tn) (.type "bool") = some (isT d "bool") := by
 unfold PySem.W.kitOne PySem.W.kitCls
 cases d <;> kernel_rfl
theorem dD (K : PySem.W.Frag) (d : Dv) : PySem.W.kitOne K (.type d.tn) (.type "tuple") = some (isT d "tuple") := by
 unfold PySem.W.kitOne PySem.W.kitCls
 cases d <;> kernel_rfl
theorem qY (K : PySem.W.Frag) (d : Dv) : PySem.W.kitOne K (.type d.tn) (.type "list") = some (isT d "list") := by
 unfold PySem.W.kitOne PySem.W.kitCls
 cases d <;> kernel_rfl
section
variable {k : Nat} {ix : List Nat} {g : TG} {tt : TT} {te : TE} {σ : St} {H1 : Hp} {Q : List V -> Hp -> Prop}
theorem fV {i : Nat} {x : V} {ys : List V} {H : Hp} {N : List V -> Hp -> Prop} (h : te ((dh k ix σ).set i (some x)) H fun y H4 => ys.length < sizeLine /\ N (ys ++ [y]) H4) : dX k ix (cV i) sN te σ x ys H N := by
 exact fY (B := N ys H) h
theorem fj {i j : Nat} {K : PySem.W.Frag} {a : Addr} {x y : V} {ys : List V} {H : Hp} {N : List V -> Hp -> Prop} (ha : H a = some (.tup [x, y])) (h : te (((dh k ix σ).set i (some x)).set j (some y)) H fun y H4 => ys.length < sizeLine /\ N (ys ++ [y]) H4) :
  dX k ix (qD K 2 (eV (cV i) (eV (cV j) mD))) sN te σ (.ref a) ys H N := by
 refine ⟨a, _, rfl, SqT.of ha, rfl, _, _, rfl, _, _, rfl, rfl, ?_⟩
 exact fY (B := N ys H) h
theorem qK {K : PySem.W.Frag} {a : Addr} {xs : List V} {g : TG} {tb : TS} {D : fF} {σ : St} {H : Hp} (Pv : Nat -> St -> Hp -> Prop) (h0 : Pv 0 σ H) (hl : ∀ i σ H, i <= xs.length -> Pv i σ H -> SqL K H a xs)
  (hs : ∀ i x σ H p, xs[i]? = some x -> Pv i σ H -> H p = none -> g (.ref p) σ (upd H p (.tup [.int i, x])) fun σ2 H2 => tb { D with nx := Pv (i + 1), ct := Pv (i + 1), bk := D.nx } σ2 H2) (hd : ∀ σ H, Pv xs.length σ H -> D.nx σ H) :
  ∃ W : Nat -> Nat -> St -> Hp -> Prop, (∃ m, W 0 m σ H) /\ ∀ i m σ H, W i m σ H ->
   ((Ite K a).stop i H /\ D.nx σ H) \/ ((Ite K a).go i H /\ ∃ N : St -> Hp -> Prop, (∀ σ' H', N σ' H' -> ∃ m', m' < m /\ W (i + 1) m' σ' H') /\ ∀ x H', (Ite K a).yld i H x H' -> g x σ H' fun σ2 H2 => tb { D with nx := N, ct := N, bk := D.nx } σ2 H2) := by
 refine ⟨fun i m σ H => m = xs.length - i /\ i <= xs.length /\ Pv i σ H, ⟨xs.length, by simp, Nat.zero_le _, h0⟩, ?_⟩
 rintro i m σ H ⟨rfl, hi, p⟩
 have q := hl i σ H hi p
 by_cases hlt : i < xs.length
 ·refine .inr ⟨⟨xs, xs[i], q, by simp [hlt]⟩, Pv (i + 1), fun σ' H' p' => ⟨xs.length - (i + 1), by omega, rfl, hlt, p'⟩, fun x H' y => ?_⟩
  obtain ⟨b, y, hb, e1, e2, hy⟩ := y
  subst e1 e2
  exact hs i y σ H b (hy xs q) p hb
 ·have e : i = xs.length := by omega
  subst e
  exact .inl ⟨⟨xs, q, Nat.le_refl _⟩, hd σ H p⟩
end
mutual
def Dv.small : Dv -> Bool
 | .str x => decide (x.cps.size <= 1000)
 | .tup xs => smalls xs && decide (xs.length <= 1000)
 | .lst xs => smalls xs && decide (xs.length <= 1000)
 | _ => true
def smalls : List Dv -> Bool
 | [] => true
 | d :: ds => d.small && smalls ds
end
theorem ah {H : Hp} {p : Addr} (h : H p = none) (o : HO) : az H (upd H p o) := fun b u q => by rw [au (ap q h)]; exact q
section
variable {X : Cx}
theorem mW (K : PySem.W.Frag) (h : X.K = K) : IxR X (vy K) := by subst h; exact aE
theorem wn (K : PySem.W.Frag) (h : X.K = K) : cA X (.builtin "isinstance") (fun xs H Q => ∃ x t n b, xs = [x, .ty n] /\ cY K H x t /\ PySem.W.kitOne K t (.type n) = some b /\ Q (.bl b) H) := by subst h; exact cM
end
section
variable {X : Cx}
def vc (K : PySem.W.Frag) : R2 := fun x y H Q => ∃ a b xs ys, x = .ref a /\ y = .ref b /\ SqT K H a xs /\ SqT K H b ys /\ xs.length + ys.length <= sizeLine /\
 (xs = [] -> Q (.ref b) H) /\ (ys = [] -> Q (.ref a) H) /\ (∀ p, H p = none -> Q (.ref p) (upd H p (.tup (xs ++ ys))))
theorem og : OpR X (binaryOp .Add) (vc X.K) := by
 intro pins s σ H x y v u Q I rx ry h
 obtain ⟨a, b, xs, ys, rfl, rfl, ha, hb, hz, q0, q1, q2⟩ := h
 by_cases hx : xs = []
 ·cases rx
  cases ry
  obtain ⟨its, r1, p1, _⟩ := I.tuple ha
  obtain ⟨its2, r2, p2, _⟩ := I.tuple hb
  subst hx
  cases r1
  obtain ⟨⟨cls, dd, data, sl⟩, ho, hc, n, hd⟩ := id p1
  obtain ⟨⟨cls2, dd2, data2, sl2⟩, ho2, hc2, n2, hd2⟩ := id p2
  simp only at hc hd hc2 hd2
  subst hc hd hc2 hd2
  exact concat_meets ⟨_, ho, rfl⟩ ⟨_, ho2, rfl⟩ noFill_tuple_add seq_tuple_add PySem.F.slot_tuple_add PySem.F.entry_tuple_add (PySem.F.args_tuple_add_2 _ _) (tuple_addW0 a b _ _ n n2 dd dd2 sl sl2 rfl) ⟨ho, ho2, ⟨.ref b, H, I, rfl, q0 rfl⟩⟩
 ·exact rX pins s σ H (.ref a) (.ref b) v u Q I rx ry ⟨a, b, xs, ys, rfl, rfl, ha, hb, hx, hz, q1, fun _ => q2⟩
end
section
variable {σ : St} {H : Hp} {d e : Dv} {ds es : List Dv} {ta tb : TE} {t : TA}
theorem Reps.append {H : Hp} : ∀ {ds es : List Dv} {vs ws : List V}, Reps H ds vs -> Reps H es ws -> Reps H (ds ++ es) (vs ++ ws)
 | [], _, _, _, h, g => by simp only [Reps] at h; subst h; exact g
 | d :: ds, es, vs, ws, h, g => by
  simp only [Reps] at h
  obtain ⟨v, r, rfl, h1, h2⟩ := h
  simp only [List.cons_append, Reps]
  exact ⟨v, r ++ ws, rfl, h1, Reps.append h2 g⟩
end
section
variable {σ : St} {H : Hp} {d e : Dv} {ds es : List Dv} {ta tb : TE} {t : TA} {l : Addr}
variable {i : Nat} {u : TS} {D : fF}
end
section
variable {X : Cx}
theorem sB : OpR X (binaryOp .Add) (fun x y H Q => ∃ (l b : Addr) (xs zs : List V), x = .ref l /\ y = .ref b /\ SqL X.K H l xs /\ SqL X.K H b zs /\ xs.length + zs.length <= sizeLine /\ ∀ p, H p = none -> Q (.ref p) (upd H p (.lst (xs ++ zs)))) := by
 intro pins s σ H x y v u Q I rx ry h
 obtain ⟨l, b, xs, zs, rfl, rfl, hl, hb, hz, q⟩ := h
 cases rx
 cases ry
 obtain ⟨its, r1, ⟨⟨c1, d1, dt1, sl1⟩, n1, e1, hc1, hd1, hdt1⟩, _⟩ := I.list hl
 obtain ⟨its2, r2, ⟨⟨c2, d2, dt2, sl2⟩, n2, e2, hc2, hd2, hdt2⟩, _⟩ := I.list hb
 simp only at hc1 hd1 hdt1 hc2 hd2 hdt2
 subst hc1 hd1 hdt1 hc2 hd2 hdt2
 refine concat_meets ⟨_, e1, rfl⟩ ⟨_, e2, rfl⟩ noFill_list_add seq_list_add PySem.F.slot_list_add PySem.F.entry_list_add (PySem.F.args_list_add_2 _ _) (list_addW l b its.toArray its2.toArray n1 n2 none none sl1 sl2 (by rw [List.size_toArray, List.size_toArray, <- r1.length, <- r2.length]; exact hz)) ⟨e1, e2, ?_⟩
 have ea : its.toArray ++ its2.toArray = (its ++ its2).toArray := by simp
 rw [ea]
 refine ⟨.ref s.heap.objs.size, _, I.laid (t' := s.toks) (o := .lst (xs ++ zs)) (fun b ob q => Heap.get?_push_of_some _ q) (Nat.le_refl _) ?_, rfl, q _ (I.hok.fresh (Nat.le_refl _))⟩
 exact ⟨by rw [List.length_append]; exact hz, _, 0, r1.append r2, Heap.get?_push_size _ rfl⟩
end
section
variable {prog : Program} {w : World} {K : Type} [DecidableEq K] {knd : PySem.KeyKind prog w K} {A : Around} {R : Result -> Shared -> Prop} {I d : Addr} {fp wr : List Addr} {n : Nat} {P : Nat -> Value -> Prop} {St : Nat -> Heap -> Prop}
end
section
variable {prog : Program} {w : World} {K : Type} [DecidableEq K] {knd : PySem.KeyKind prog w K} {A : Around} {E : Value -> Shared -> Prop} {s : Shared}
end
section
variable {X : Cx}
end
theorem gs (ns : List Int) : ∀ k, k <= ns.length -> preSum (fun i => (ns[i]?).getD 0) k = (ns.take k).sum
 | 0, _ => by simp [preSum]
 | k + 1, h => by
  have e : ns[k]? = some ns[k] := List.getElem?_eq_getElem (by omega)
  rw [preSum, gs ns k (by omega), List.take_add_one, List.sum_append, e]
  simp
theorem rF : ∀ {ns : List Int} {us : List Value}, aF (ns.map V.int) us -> ∀ (i : Nat) (v : Value), us[i]? = some v -> ∃ t, v = .int ((ns[i]?).getD 0) t := fun {ns us} r i v e => by
 have hl := r.length
 have hi : i < ns.length := by rw [List.length_map] at hl; rw [hl]; exact (List.getElem?_eq_some_iff.mp e).1
 obtain ⟨u, hu, ru⟩ := aF.get (i := i) (x := V.int ns[i]) r (by rw [List.getElem?_map, List.getElem?_eq_getElem hi]; rfl)
 obtain rfl : u = v := Option.some.inj (hu.symm.trans e)
 obtain ⟨t, rfl⟩ := (show ∃ t, u = Value.int ns[i] t from ru)
 exact ⟨t, by rw [List.getElem?_eq_getElem hi]; rfl⟩
section
variable {X : Cx}
theorem eF (hc : X.calm = true) : cA X (.builtin "sum") (fun xs H Q => ∃ (a : Addr) (ns : List Int), xs = [.ref a] /\ SqL X.K H a (ns.map V.int) /\ Q (.int ns.sum) H) := by
 intro pins s σ H xs us Q I r h
 obtain ⟨a, ns, rfl, hq, q⟩ := h
 obtain ⟨u, rfl, ru⟩ := cT r
 cases ru
 obtain ⟨its, rv, p, hz⟩ := I.list hq
 have hl := p.isList
 have hlt : a < s.heap.objs.size := by obtain ⟨_, e, _⟩ := hl; exact Heap.lt_size e
 have hlen : its.length = ns.length := by have := rv.length; rw [List.length_map] at this; exact this.symm
 refine call_sum_walkAnyS (wpAny_pyIter_list hl ?_)
 refine ⟨s.heap.objs.size, [s.heap.objs.size, a], [s.heap.objs.size], _, its.toArray.size, _, _, fun i => (ns[i]?).getD 0, rfl, (Walks.list (A := X.A.in1) (I.ok.hd hc) _ a (Nat.ne_of_lt hlt) its.toArray).toS,
  ⟨⟨_, Heap.get?_push_size _ rfl, rfl, rfl⟩, hl.push _⟩, fun b hb => ?_, fun i v hP => rF rv i v (by simpa using hP), fun s' t' hm => ?_⟩
 ·obtain ⟨_, e, _⟩ := hl
  rcases List.mem_cons.mp hb with rfl | hb
  ·exact Heap.lt_size (Heap.get?_push_size _ rfl)
  ·obtain rfl := List.mem_singleton.mp hb
   exact Heap.lt_size (Heap.get?_push_of_some _ e)
 ·obtain ⟨h', g', d', tk', os'⟩ := s'
  have e1 : g' = s.gens := hm.gens
  have e2 : d' = s.drawn := hm.drawn
  have e3 : os' = s.os := hm.os
  subst e1 e2 e3
  rw [List.size_toArray, hlen, gs ns _ (Nat.le_refl _), List.take_length]
  exact ⟨.int ns.sum, H, I.kept fun b o e => hm.heap b o (fun hb => absurd (Heap.lt_size e) ((List.mem_singleton.mp hb) ▸ Nat.lt_irrefl _)) (Heap.get?_push_of_some _ e), ⟨t', rfl⟩, q⟩
end
open PySem PySem.Spec PyProof.Rows PySem.W
section
variable {X : Cx} {pins : List (Addr × Obj)} {σ : St} {H : Hp} {s : Shared}
theorem Inv.setList {D : Addr} {ys0 ys : List V} {its : List Value} {c : Nat} {h' : Heap} {m : Str -> Option Value} (I : Inv X pins σ H s) (hm : s.heap.Ns X.env.locals m) (hD : H D = some (.lst ys0)) (rv : aF ys its) (hz : ys.length <= sizeLine)
  (F : h'.Ns X.env.locals m) (k : ∀ b o, b ≠ X.env.locals -> b ≠ D -> s.heap.get? b = some o -> h'.get? b = some o) (e : h'.get? D = some { cls := .type "list", data := .seq its.toArray c }) : Inv X pins σ (upd H D (.lst ys)) { s with heap := h' } := by
 have nl : ∀ b v, H b = some v -> b ≠ X.env.locals := fun b v q z => by rw [z, I.free] at q; cases q
 have nD : ∀ b, H b = none -> b ≠ D := fun b q z => by rw [z, hD] at q; cases q
 have nT : ∀ b v, H b = some v -> v ≠ .lst ys0 -> b ≠ D := fun b v q n z => by rw [z, hD] at q; cases q; exact n rfl
 refine I.step (g' := s.gens) (d' := s.drawn) (t' := s.toks) (ch := []) (fun b hb => by cases hb) (fun b o hL _ _ q n => k b o hL (nD b n) q) (fun b o hL _ _ q n => ⟨o.slots, k b o hL (nD b n) q⟩) (fun b o _ q n => by rw [au (nD b n)]; exact n) (fun b o _ q => ?_)
  (fun b xs q => by rw [au (nT b _ q nofun)]; exact q) (fun b o v q => by rw [au (nT b _ q nofun)]; exact q) (fun b ps q => ⟨#[], by rw [au (nT b _ q nofun), q]; simp⟩) (fun m' hm' => by rw [tX hm' hm]; exact F) (fun b v q => ?_) I.bare
 ·by_cases hb : b = X.env.locals
  ·subst hb
   obtain ⟨o', _, _, q', _⟩ := F
   exact ⟨o', q'⟩
  ·by_cases hd : b = D
   ·subst hd; exact ⟨_, e⟩
   ·exact ⟨o, k b o hb hd q⟩
 ·by_cases hb : b = D
  ·subst hb
   rw [ad] at q
   cases q
   exact ⟨hz, its, c, rv, e⟩
  ·rw [au hb] at q
   refine (I.hok b v q).stay (fun c w' hc q' => ?_) (fun c q' => by rw [au (nT c _ q' nofun)]; exact q') fun c xs q' => by rw [au (nT c _ q' nofun)]; exact q'
   rcases hc with z | z
   ·subst z; exact k c w' (nl c v q) hb q'
   ·exact k c w' (nl c _ z) (nT c _ z nofun) q'
theorem pU {A : Around} {E : Value -> Shared -> Prop} {l : Addr} {ps : List TK} {Q : Value -> Shared -> Prop} (I : Inv X pins σ H s) (hq : H l = some (.lst (ps.map fun p => V.ref p.1))) (ht : ∀ p ∈ ps, H p.1 = some (.tup (.str p.2.1 :: p.2.2)))
  (nd : (ps.map (·.2.1)).Nodup) (h64 : ps.length < 64) (q : ∀ (qs : List TK) (h' : Heap), qs.Perm ps -> qs.Pairwise uA -> Inv X pins σ (upd H l (.lst (qs.map fun p => V.ref p.1))) { s with heap := h' } -> Q .none { s with heap := h' }) :
  wpAny (model X.prog X.w) A (call (.builtin "list.sort") [.ref l]) Q E s := by
 obtain ⟨hz, its, n, rv, at0⟩ := (show aU X.prog X.w H s.heap l (.lst (ps.map fun p => V.ref p.1)) from I.hok l _ hq)
 have ei := sE ps its rv
 subst ei
 obtain ⟨m, hm, _⟩ := I.loc
 have nL : l ≠ X.env.locals := fun z => by rw [z, I.free] at hq; cases hq
 have lne : ∀ p ∈ ps, p.1 ≠ l /\ p.1 ≠ X.env.locals := fun p hp => by
  refine ⟨fun z => ?_, fun z => ?_⟩
  ·have t := ht p hp
   rw [z, hq] at t
   cases t
  ·have t := ht p hp
   rw [z, I.free] at t
   cases t
 by_cases few : ps.length < 2
 ·refine wpAny_call_entry slot_list_sort ⟨_, at0, rfl⟩ entry_list_sort (eU at0 (by simpa using few) fun hp ep k2 e2 => ⟨_, rfl, ?_⟩) (args_list_sort _)
  refine q ps hp (List.Perm.refl _) ?_ (I.setList hm hq (gf ps) hz (hm.at' fun o e => k2 _ o (Ne.symm nL) e) (fun b o _ hb z => k2 b o hb z) e2)
  match ps, few with
  | [], _ => exact .nil
  | [p], _ => exact List.pairwise_singleton _ _
 ·have hlen : (ps.map fun p => Value.ref p.1).length = ps.length := List.length_map _
  have F0 : Fr (Att.noObjs s.heap) X.env.locals s.heap m := Att.fr_all hm
  generalize hN : (gE (Att.noObjs s.heap) s.heap X.env.locals).filter (fun p => decide (p.1 ≠ l)) = nw
  have N0 : News (Att.noObjs s.heap) X.env.locals s.heap nw := fun p hp => by rw [<- hN] at hp; exact pG p (List.mem_filter.mp hp).1
  have nl0 : ∀ p ∈ nw, p.1 ≠ l := fun p hp => by rw [<- hN] at hp; exact of_decide_eq_true (List.mem_filter.mp hp).2
  refine wpAny_call_entry slot_list_sort ⟨_, at0, rfl⟩ entry_list_sort (kat_list_sort F0 N0 at0 nL (Att.noObjs_get _ _) nl0 (by rw [hlen]; omega) (by rw [hlen]; exact h64) fun e1 h' F' N' => ?_) (args_list_sort _)
  have keep : ∀ (g : Heap) (x : Obj), News (Att.noObjs s.heap) X.env.locals g ((l, x) :: nw) -> ∀ b o, b ≠ X.env.locals -> b ≠ l -> s.heap.get? b = some o -> g.get? b = some o := fun g x N b o hb hl e =>
   (N (b, o) (List.mem_cons_of_mem _ (by rw [<- hN]; exact List.mem_filter.mpr ⟨lg hb (Att.noObjs_get _ _) e, decide_eq_true hl⟩))).1
  have kp := keep h' _ N'
  have atv : ∀ i, i < ps.length -> (ps.map fun p => Value.ref p.1).getD i .none = Value.ref (ps.getD i (0, default, [])).1 := fun i hi => by
   simp [List.getD, hi]
  have item : ∀ i, i < ps.length -> ∃ (o : Obj) (us : List Value) (n : Nat) (t : Tok), h'.get? (ps.getD i (0, default, [])).1 = some o /\ o.cls = .type "tuple" /\ o.data = .seq (Value.str (ps.getD i (0, default, [])).2.1 t :: us).toArray n := fun i hi => by
   have hm' : ps.getD i (0, default, []) ∈ ps := by
    have e : ps.getD i (0, default, []) = ps[i] := by simp [List.getD, hi]
    rw [e]; exact List.getElem_mem hi
   obtain ⟨o, us, n, t, e, c, d⟩ := pQ I (ht _ hm')
   exact ⟨o, us, n, t, kp _ o (lne _ hm').2 (lne _ hm').1 e, c, d⟩
  have firsts : ∀ (qs : List TK), (∀ p ∈ qs, p ∈ ps) -> ∃ fs : List Value, KatTups h' (qs.map fun p => Value.ref p.1) fs /\ fs.length = qs.length /\ ∀ v ∈ fs, ∃ x t, v = Value.str x t := by
   intro qs
   induction qs with
   | nil => intro _; exact ⟨[], KatTups.nil, rfl, by simp⟩
   | cons p qs ih =>
    intro hs
    obtain ⟨fs, t1, t2, t3⟩ := ih fun x hx => hs x (List.mem_cons_of_mem _ hx)
    have hp := hs p List.mem_cons_self
    obtain ⟨o, us, n, t, e, c, d⟩ := pQ I (ht _ hp)
    refine ⟨Value.str p.2.1 t :: fs, KatTups.cons (kp _ o (lne _ hp).2 (lne _ hp).1 e) c d (by simp) t1, by simp [t2], fun v hv => ?_⟩
    rcases List.mem_cons.mp hv with rfl | hv
    ·exact ⟨_, _, rfl⟩
    ·exact t3 v hv
  obtain ⟨fs, t1, t2, t3⟩ := firsts ps fun p hp => hp
  refine kat_kind (T := .type "str") (s := { s with heap := h' }) t1 (by rw [t2]; omega) (fun v hv => ?_) (by decide) ?_
  ·obtain ⟨x, t, rfl⟩ := t3 v hv
   exact Looks.of_pure rfl
  rw [hlen]
  have O : Ord (kas_ask X.prog X.w A.in1 (tuples' (Value.type "str" != Value.type "tuple")) (ps.map fun p => Value.ref p.1)) (fun i j => decide ((ps.getD i (0, default, [])).2.1.cps.toList < (ps.getD j (0, default, [])).2.1.cps.toList)) ps.length { s with heap := h' } := by
   have unlike : ∀ i j, i < ps.length -> j < ps.length -> i ≠ j -> (ps.getD i (0, default, [])).2.1 ≠ (ps.getD j (0, default, [])).2.1 := fun i j hi hj hij e => by
    have ei : ps.getD i (0, default, []) = ps[i] := by simp [List.getD, hi]
    have ej : ps.getD j (0, default, []) = ps[j] := by simp [List.getD, hj]
    rw [ei, ej] at e
    exact hij ((List.getElem_inj (h₀ := by simpa using hi) (h₁ := by simpa using hj) nd).mp (by simpa using e))
   refine ⟨fun i j C hi hj hij hC => ?_, fun i j k h1 h2 => ?_, fun i j hi hj hij h1 => ?_, fun i j h1 => ?_⟩
   ·show wpAny _ _ (keyLt' _ _ _) C _ _
    rw [atv i hi, atv j hj]
    obtain ⟨o, us, n, t, e, c, d⟩ := item i hi
    obtain ⟨o2, us2, n2, t2', e2, c2, d2⟩ := item j hj
    refine kat_lt (s := { s with heap := h' }) e d e2 d2 ?_
    show KatLex _ _ _ _ _ _ ((Value.str _ t, Value.str _ t2') :: _) 0 _
    refine kat_cons (wpAny_eqBool_str ?_)
    rw [decide_eq_false (unlike i j hi hj hij)]
    exact kat_no (oneLt_str hC)
   ·exact decide_eq_true (List.lt_trans (of_decide_eq_true h1) (of_decide_eq_true h2))
   ·exact decide_eq_true (nE (of_decide_eq_false h1) fun e => unlike i j hi hj hij (oi e))
   ·exact decide_eq_false (List.lt_asymm (of_decide_eq_true h1))
  refine rE O (by omega) fun p re up => ?_
  have outs : (p.toList.map fun i => (ps.map fun p => Value.ref p.1).getD i .none) = (p.toList.map fun i => ps.getD i (0, default, [])).map fun p => Value.ref p.1 := by
   rw [List.map_map]
   refine List.map_congr_left fun i hi => ?_
   have hl2 : p.toList.Perm (List.range ps.length) := by simpa using Array.perm_iff_toList_perm.mp re.perm
   exact atv i (List.mem_range.mp ((List.Perm.mem_iff hl2).mp hi))
  rw [outs]
  refine KasFin.intro (news := (l, seqObj "list" #[] e1) :: nw) (g := fun o' => (l, o') :: nw) F' N' (.head nl0) fun h2 c F2 N2 => ?_
  have pq := oW (d := (0, default, [])) rfl re
  have I2 := I.setList (D := l) (ys := (p.toList.map fun i => ps.getD i (0, default, [])).map fun p => V.ref p.1) hm hq (gf _) (by rw [List.length_map, pq.length_eq]; simpa using hz) F2.ns (keep h2 _ N2) (N2 (l, _) List.mem_cons_self).1
  exact ⟨_, rfl, q _ h2 pq (iE (R := uA) (fun i j _ _ h => (of_decide_eq_true h : (ps.getD i (0, default, [])).2.1.cps.toList < (ps.getD j (0, default, [])).2.1.cps.toList)) re up) I2⟩
def eA (v d : Addr) : HO := .ext fun h => h.IsItemsView v d
theorem qZ : MtR X "dict.items" (fun x xs H Q => ∃ d kvs, x = .ref d /\ xs = [] /\ H d = some (.dK kvs) /\ ∀ v, H v = none -> Q (.ref v) (upd H v (eA v d))) := by
 intro pins s σ H x xs u us Q I rx rv h
 obtain ⟨d, kvs, rfl, rfl, hd, q⟩ := h
 cases rx
 cases rv
 obtain ⟨z, hdm, vs, rel, dd⟩ := hV I.hok hd
 refine call_meetsIn PySem.F.slot_dict_items dd.typeIs PySem.F.entry_dict_items (PySem.F.args_dict_items_1 _) (meets_dict_items (aA X.prog X.w) d hdm) ⟨⟨vs, dd⟩, ?_⟩
 refine ⟨.ref s.heap.objs.size, _, I.laid (t' := s.toks) (a := s.heap.objs.size) (o := eA s.heap.objs.size d) (fun b u q => Heap.get?_push_of_some _ q) (Nat.le_refl _) ?_, rfl, q _ I.fresh⟩
 exact ⟨⟨_, Heap.get?_push_size _ rfl, rfl, rfl⟩, ⟨_, Heap.get?_push_size _ rfl⟩, fun h1 h2 ⟨o, e, r⟩ k => ⟨o, k o e, r⟩⟩
def lays (H : Hp) (rs : List TK) : Hp := fun b => match rs.find? (fun r => decide (r.1 = b)) with | some r => some (.tup (.str r.2.1 :: r.2.2)) | none => H b
theorem gM {rs : List TK} {b : Addr} (h : ∀ r ∈ rs, r.1 ≠ b) : lays H rs b = H b := by
 unfold lays
 rw [List.find?_eq_none.mpr (fun r hr e => h r hr (of_decide_eq_true e))]
theorem nX {rs : List TK} (nd : (rs.map (·.1)).Nodup) {r : TK} (hr : r ∈ rs) : lays H rs r.1 = some (.tup (.str r.2.1 :: r.2.2)) := by
 unfold lays
 cases e : rs.find? (fun x => decide (x.1 = r.1)) with
 | none => exact absurd (decide_eq_true rfl) (List.find?_eq_none.mp e r hr)
 | some x =>
  have hx := List.mem_of_find?_eq_some e
  have e1 : x.1 = r.1 := of_decide_eq_true (List.find?_some (p := fun x : TK => decide (x.1 = r.1)) e)
  obtain ⟨i, hi, rfl⟩ := List.getElem_of_mem hx
  obtain ⟨j, hj, rfl⟩ := List.getElem_of_mem hr
  have : i = j := (List.getElem_inj (h₀ := by simpa using hi) (h₁ := by simpa using hj) nd).mp (by simpa using e1)
  subst this
  rfl
theorem Inv.lays {h' : Heap} {tk : Nat} {rs : List TK} (I : Inv X pins σ H s) (k : ∀ b u, s.heap.get? b = some u -> h'.get? b = some u) (nd : (rs.map (·.1)).Nodup) (hp : ∀ r ∈ rs, s.heap.objs.size <= r.1)
  (new : ∀ r ∈ rs, aU X.prog X.w (L2.lays H rs) h' r.1 (.tup (.str r.2.1 :: r.2.2))) : Inv X pins σ (L2.lays H rs) { s with heap := h', toks := tk } := by
 have out : ∀ b, b < s.heap.objs.size -> L2.lays H rs b = H b := fun b hb => gM fun r hr e => absurd hb (Nat.not_lt.mpr (e ▸ hp r hr))
 refine I.un (t' := tk) ⟨fun b u q _ _ _ => k b u q, fun b u q _ _ _ => ⟨u.slots, k b u q⟩, fun b u q n _ => by rw [out b (Heap.lt_size q)]; exact n, fun b u q _ => ⟨u, k b u q⟩, fun b xs q => by rw [out b (I.hok.lt q)]; exact q, fun b u xs q => by rw [out b (I.hok.lt q)]; exact q,
  fun b ps q => ⟨#[], by rw [out b (I.hok.lt q), q]; simp⟩⟩ fun b u e => ?_
 by_cases hb : ∃ r ∈ rs, r.1 = b
 ·obtain ⟨r, hr, rfl⟩ := hb
  rw [nX nd hr] at e
  cases e
  exact new r hr
 ·rw [gM fun r hr z => hb ⟨r, hr, z⟩] at e
  exact (I.hok b u e).stay (fun c v _ q => k c v q) (fun c q => by rw [out c (I.hok.lt q)]; exact q) fun c xs q => by rw [out c (I.hok.lt q)]; exact q
theorem jD (hc : X.calm = true) : cA X (.builtin "sorted") (fun xs H Q => ∃ (v d : Addr) (m : List (Str × V)), xs = [.ref v] /\ H v = some (eA v d) /\ H d = some (.dK (m.map fun p => ((Sum.inr p.1 : Key), p.2))) /\ m.length < 64 /\
  ∀ (H' : Hp) (l : Addr) (qs : List TK), az H H' -> H l = none -> (∀ r ∈ qs, H' r.1 = some (.tup (.str r.2.1 :: r.2.2)) /\ H r.1 = none) -> H' l = some (.lst (qs.map fun r => V.ref r.1)) -> (qs.map (·.2)).Perm (m.map fun p => (p.1, [p.2])) -> qs.Pairwise uA -> Q (.ref l) H') := by
 intro pins s σ H xs us Q I r h
 obtain ⟨v, d, m, rfl, hv, hd, h64, q⟩ := h
 obtain ⟨u, rfl, ru⟩ := cT r
 cases ru
 obtain ⟨vw, _, _⟩ := (show aU X.prog X.w H s.heap v (eA v d) from I.hok v _ hv)
 obtain ⟨z, hdm, vs, rel, dd⟩ := hV I.hok hd
 have hvl : vs.length = m.length := by have := rel.length; rw [List.length_map] at this; exact this.symm
 obtain ⟨ep, da⟩ := dd.dictAt
 have ndk : (vs.map (·.1)).Nodup := by obtain ⟨_, _, _, _, _, _, _, nd⟩ := da; exact nd
 refine Calls.call_function_entry kind_sorted plain_sorted entry_sorted (args_sorted1 _) ?_
 unfold Builtin.«sorted»
 refine wpAny_bind (m := checkCount "sorted" 1 1 _) (wpAny_pure (wpAny_bind (kdx_collect (A := X.A.in1) (knd := aA X.prog X.w) (kvs := vs) (ep := ep) (I.ok.hd hc) vw da (by rw [<- rel.length]; exact z) fun h' tk as hk hl hG => ?_)))
 have hlm : as.length = m.length := by omega
 have e1 : ((as.zip m).map fun p => ((p.1, p.2.1, [p.2.2]) : TK)).map (·.1) = as := by
  rw [List.map_map]
  have : ((fun x : TK => x.1) ∘ fun p : Addr × Str × V => ((p.1, p.2.1, [p.2.2]) : TK)) = Prod.fst := rfl
  rw [this, List.map_fst_zip (by omega)]
 have e2 : ((as.zip m).map fun p => ((p.1, p.2.1, [p.2.2]) : TK)).map (·.2) = m.map fun p => (p.1, [p.2]) := by
  rw [List.map_map]
  have : ((fun x : TK => x.2) ∘ fun p : Addr × Str × V => ((p.1, p.2.1, [p.2.2]) : TK)) = (fun p : Str × V => (p.1, [p.2])) ∘ Prod.snd := rfl
  rw [this, <- List.map_map, List.map_snd_zip (by omega)]
 have e3 : ((as.zip m).map fun p => ((p.1, p.2.1, [p.2.2]) : TK)).map (fun r => V.ref r.1) = as.map V.ref := by
  have : (fun r : TK => V.ref r.1) = V.ref ∘ (fun r : TK => r.1) := rfl
  rw [this, <- List.map_map, e1]
 have pairs : ∀ r ∈ (as.zip m).map fun p => ((p.1, p.2.1, [p.2.2]) : TK), ∃ (x : Str) (y : V) (u w' : Value), r.2 = (x, [y]) /\ aR (.str x) u /\ aR y w' /\ h'.get? r.1 = some { cls := .type "tuple", data := .seq #[u, w'] } := fun r hr => by
  obtain ⟨⟨a, x, y⟩, hp, rfl⟩ := List.mem_map.mp hr
  obtain ⟨j, hj⟩ := List.getElem?_of_mem hp
  obtain ⟨ha, hm⟩ := List.getElem?_zip_eq_some.mp hj
  obtain ⟨key, k, w', g1, g2, g3⟩ := hG.pairs j a ha
  obtain ⟨y', hy, ry⟩ := rel.at g1
  rw [List.getElem?_map, hm] at hy
  have hy' : ((Sum.inr x : Key), y) = (k, y') := Option.some.inj hy
  injection hy' with k1 k2
  subst k1 k2
  exact ⟨x, y, key, w', rfl, nW g2, ry, g3⟩
 generalize hrs : (as.zip m).map (fun p => ((p.1, p.2.1, [p.2.2]) : TK)) = rs at e1 e2 e3 pairs
 have lrs : rs.length = m.length := by rw [<- hrs, List.length_map, List.length_zip]; omega
 have nda : (rs.map (·.1)).Nodup := by rw [e1]; exact hG.rise.imp fun h => Nat.ne_of_lt h
 have above : ∀ r ∈ rs, s.heap.objs.size <= r.1 := fun r hr => Nat.le_of_lt (hG.above r.1 (by rw [<- e1]; exact List.mem_map_of_mem hr))
 have tup : ∀ (Hx : Hp) (r : TK), r ∈ rs -> aU X.prog X.w Hx h' r.1 (.tup (.str r.2.1 :: r.2.2)) := fun Hx r hr => by
  obtain ⟨x, y, u, w', er, r1, r2, g⟩ := pairs r hr
  rw [er]
  exact ⟨by show 2 <= sizeLine; rw [sizeLine_eq]; decide, [u, w'], .cons r1 (.cons r2 .nil), ⟨_, g, rfl, 0, rfl⟩, ⟨_, g, rfl⟩⟩
 have I1 : Inv X pins σ (lays H rs) { s with heap := h', toks := tk } := I.lays hk nda above fun r hr => tup _ r hr
 have s1 : az H (lays H rs) := fun b o e => by
  have ho : ∀ r ∈ rs, r.1 ≠ b := fun r hr z' => by
   have h1 := above r hr
   rw [z'] at h1
   exact absurd (I.hok.lt e) (Nat.not_lt.mpr h1)
  rw [gM ho]; exact e
 refine wpAny_bind (wpAny_newList ?_ (by rw [List.length_map, hlm, sizeLine_eq]; omega))
 have rvals : aF (rs.map fun r => V.ref r.1) (as.map Value.ref) := by
  have := gf rs
  have e4 : rs.map (fun p => Value.ref p.1) = as.map Value.ref := by
   rw [<- e1, List.map_map]; rfl
  rwa [e4] at this
 have I2 := I1.lnew (t' := tk) (its := as.map Value.ref) rvals (by rw [List.length_map, lrs, sizeLine_eq]; omega)
 have fr : lays H rs h'.objs.size = none := I1.fresh
 have s2 : az (lays H rs) (upd (lays H rs) h'.objs.size (.lst (rs.map fun r => V.ref r.1))) := ah fr _
 have inr : ∀ r ∈ rs, lays H rs r.1 = some (.tup (.str r.2.1 :: r.2.2)) := fun r hr => nX nda hr
 have hnone : H h'.objs.size = none := by
  cases e : H h'.objs.size with
  | none => rfl
  | some o => have := s1 _ _ e; rw [fr] at this; cases this
 have nd2 : (rs.map (·.2.1)).Nodup := by
  have e5 : rs.map (·.2.1) = m.map (·.1) := by
   have := congrArg (List.map Prod.fst) e2
   simpa [List.map_map, Function.comp_def] using this
  have e6 : (m.map (·.1)).map (Sum.inr : Str -> Key) = vs.map (·.1) := by
   rw [<- rel.keys, List.map_map, List.map_map]; rfl
  rw [e5]
  rw [<- e6] at ndk
  rw [List.Nodup, List.pairwise_map] at ndk
  exact ndk.imp fun h e => h (by rw [e])
 refine wpAny_bind (wpAny_holding (pU (A := X.A.in1) (l := h'.objs.size) (ps := rs) I2 ad (fun r hr => s2 _ _ (inr r hr)) nd2 (by omega) fun qs h2 pq pw I3 => ?_))
 refine wpAny_pure ⟨_, rfl, .ref h'.objs.size, _, I3, rfl, q _ _ qs (fun b o e => ?_) hnone (fun r hr => ⟨?_, I.hok.fresh (above r (pq.mem_iff.mp hr))⟩) ad (by rw [<- e2]; exact pq.map _) pw⟩
 ·have := s2 _ _ (s1 _ _ e)
  rw [au (fun z' => by rw [z', hnone] at e; cases e)]
  exact this
 ·have hm := pq.mem_iff.mp hr
  rw [au (ap (inr r hm) fr)]
  exact s2 _ _ (inr r hm)
end
open PySem PySem.Spec PyProof.Rows
section
variable {X : Cx} {pins : List (Addr × Obj)} {σ : St} {H : Hp} {s : Shared}
end
section
variable {X : Cx}
end
section
variable {P : Program} {w : World} {K : PySem.W.Frag} {mg : Str -> Option Value} {base : Heap}
end
open PySem PySem.Spec PyProof.Rows PySem.W
section
variable {X : Cx} {e st : Expr} {te : TE} {ts : TO} {p2 pos : Pos}
end
section
variable {X : Cx}
theorem mj : cA X (.type "dict") (fun xs H Q => ∃ (d : Addr) (m : List (Key × V)), xs = [.ref d] /\ Rd H d (.dK m) /\ ∀ e, H e = none -> Q (.ref e) (upd H e (.dK m))) := by
 intro pins s σ H xs us Q I r h
 obtain ⟨d, m, rfl, hd, q⟩ := h
 obtain ⟨u, rfl, ru⟩ := cT r
 cases ru
 obtain ⟨z, hdm, vs, rel, dd⟩ := gp I.hok hd
 refine kt_call_dict (knd := aA X.prog X.w) hdm dd (by rw [<- rel.length]; exact z) fun h' dd' sb => ?_
 refine ⟨.ref s.heap.objs.size, _, I.laid (t' := s.toks) (a := s.heap.objs.size) (o := .dK m) (fun b u e => ?_) (Nat.le_refl _) (lL z (beq_eq_false_iff_ne.mpr (Ne.symm (Nat.ne_of_lt I.big))) rel dd'), rfl, q _ I.fresh⟩
 rw [sb.2 b (Nat.ne_of_lt (Heap.lt_size e))]
 exact Heap.get?_push_of_some _ e
theorem kE {A : Around} {s : Shared} {kb : List (Key × Value)} : ∀ (l : List (Key × Value)), (∀ p ∈ l, ∃ y, valueAt kb p.1 = some y /\ SeqAt.EqAt A s p.2 y true) -> KeqHits A s kb l true
 | [], _ => .nil
 | (k, v) :: l, h => by
  obtain ⟨y, hy, he⟩ := h (k, v) List.mem_cons_self
  exact KeqHits.hit (e := true) (b := true) hy he (kE l fun p hp => h p (List.mem_cons_of_mem _ hp))
theorem iq : ∀ {m : List (Key × V)}, (m.map (·.1)).Nodup -> ∀ {p : Key × V}, p ∈ m -> df m p.1 = some p.2
 | [], _, _, h => nomatch h
 | q :: m, nd, p, h => by
  rw [List.map_cons, List.nodup_cons] at nd
  rcases List.mem_cons.mp h with rfl | h
  ·exact bJ rfl
  ·exact (bE (fun e => nd.1 (by rw [e]; exact List.mem_map_of_mem h))).trans (iq nd.2 h)
theorem uj (hu : X.A.units + 8 < cLine) : OpR X (compareOp .NotEq) (fun x y H Q => ∃ (a b : Addr) (m : List (Key × V)), x = .ref a /\ y = .ref b /\ Rd H a (.dK m) /\ Rd H b (.dK m) /\ (∀ p ∈ m, (∃ c, p.2 = .ref c) \/ ∃ i, p.2 = .int i) /\ Q (.bl false) H) := by
 intro pins s σ H x y v u Q I rx ry h
 obtain ⟨a, b, m, rfl, rfl, ha, hb, hm, q⟩ := h
 cases rx
 cases ry
 obtain ⟨z, hda, va, ra, da⟩ := gp I.hok ha
 obtain ⟨_, hdb, vb, rb, db⟩ := gp I.hok hb
 have nda : (va.map (·.1)).Nodup := by obtain ⟨_, _, _, _, _, _, _, _, nd⟩ := da; exact nd
 have ndm : (m.map (·.1)).Nodup := by rw [ra.keys]; exact nda
 have la := ra.length
 have lb := rb.length
 refine keq_ne (r := true) hda hdb da db (by omega) (fun _ => kE va fun p hp => ?_) ?_
 ·obtain ⟨i, hi⟩ := List.getElem?_of_mem hp
  obtain ⟨k, w⟩ := p
  obtain ⟨x, hx, rx⟩ := ra.at hi
  have hmem : (k, x) ∈ m := List.mem_of_getElem? hx
  have hv := iq ndm hmem
  obtain ⟨y, hy, ry⟩ := fz.some_of (v := x) (o := valueAt vb k) (by rw [<- hv]; exact rb.val k)
  refine ⟨y, hy, ?_⟩
  rcases hm _ hmem with ⟨c, e⟩ | ⟨i, e⟩
  ·have e' : x = .ref c := e
   subst e'
   cases rx
   cases ry
   exact SeqAt.EqAt.same _
  ·have e' : x = .int i := e
   subst e'
   obtain ⟨t, rfl⟩ := (show ∃ t, w = Value.int i t from rx)
   obtain ⟨t', rfl⟩ := (show ∃ t, y = Value.int i t from ry)
   have e := SeqAt.EqAt.int_int (A := X.A.in1) (s := s) i t i t'
   rwa [beq_self_eq_true] at e
 ·have e : (!(va.length == vb.length && true)) = false := by simp; omega
  rw [e]
  exact ⟨.bl false, H, I, rfl, q⟩
end
section
variable {P : Program} {w : World} {A : Around} {E : Value -> Shared -> Prop} {s : Shared}
end
section
variable {P : Program} {w : World} {A : Around} {R : Result -> Shared -> Prop} {I : Addr} {fp wr : List Addr} {G : Array GenState -> Array GenState -> Prop} {n : Nat} {Pv : Nat -> Value -> Prop} {St : Nat -> Shared -> Prop}
end
section
variable {P : Program} {w : World} {A : Around} {E : Value -> Shared -> Prop} {s : Shared}
end
section
variable {P : Program} {w : World} {A : Around} {E : Value -> Shared -> Prop}
variable {s : Shared} {it S : Addr} {o : Obj} {es : Array (Int × Value)} {ep n i : Nat} {t : SetTable}
end
section
variable {P : Program} {w : World} {A : Around} {E : Value -> Shared -> Prop} {s : Shared} {it S : Addr} {o : Obj} {es : Array (Int × Value)} {ep n i : Nat} {t : SetTable}
end
section
variable {P : Program} {w : World} {A : Around} {E : Value -> Shared -> Prop} {s : Shared} {it S tp : Addr} {o ot : Obj} {es : Array (Int × Value)} {ep n i m : Nat} {t : SetTable} {pl : Array Value}
end
section
variable {P : Program} {w : World} {A : Around} {E : Value -> Shared -> Prop} {s : Shared} {S : Addr} {o : Obj} {es : Array (Int × Value)} {ep : Nat} {t : SetTable}
end
section
variable {P : Program} {w : World} {it S tp : Addr} {o ot : Obj} {es : Array (Int × Value)} {ep m : Nat} {t : SetTable}
end
section
variable {P : Program} {w : World} {A : Around} {E : Value -> Shared -> Prop} {s : Shared} {S : Addr} {xs : List Str}
variable {R : Result -> Shared -> Prop} {it L : Addr} {fp : List Addr} {vs : List Value} {St : Nat -> Heap -> Prop}
end
section
variable {P : Program} {w : World} {A : Around} {E : Value -> Shared -> Prop} {s : Shared} {S : Addr} {xs : List Str}
end
section
variable {X : Cx} {pins : List (Addr × Obj)} {σ : St} {H : Hp} {s : Shared}
end
section
variable {X : Cx}
end
section
variable {X : Cx}
end
theorem kf : ∀ {xs : List V} {us : List Value}, xs.length = us.length -> (∀ (i : Nat) (x : V) (u : Value), xs[i]? = some x -> us[i]? = some u -> aR x u) -> aF xs us
 | [], [], _, _ => .nil
 | [], _ :: _, h, _ => by cases h
 | _ :: _, [], h, _ => by cases h
 | x :: xs, u :: us, h, g => .cons (g 0 x u rfl rfl) (kf (by simpa using h) fun i y v h1 h2 => g (i + 1) y v h1 h2)
section
variable {X : Cx}
theorem mf (hc : X.calm = true) : cA X (.type "list") (fun xs H Q => ∃ (d : Addr) (kvs : List (Key × V)), xs = [.ref d] /\ H d = some (.dK kvs) /\ ∀ l, H l = none -> Q (.ref l) (upd H l (.lst (kvs.map fun p => kV p.1)))) := by
 intro pins s σ H xs us Q I r h
 obtain ⟨d, kvs, rfl, hd, q⟩ := h
 obtain ⟨u, rfl, ru⟩ := cT r
 cases ru
 obtain ⟨z, hdm, vs, rel, dd⟩ := hV I.hok hd
 obtain ⟨ep, da⟩ := dd.dictAt
 have hvl : kvs.length = vs.length := rel.length
 refine kdl_call (kdl_dict (knd := aA X.prog X.w) (kvs := vs) (ep := ep) hdm) (I.ok.hd hc) da (by rw [<- hvl]; exact z) fun h' tk acc c k hl it => ?_
 have rv : aF (kvs.map fun p => kV p.1) acc.toList := by
  refine kf (by rw [List.length_map, hvl]; simpa using it.1.symm) fun i x u h1 h2 => ?_
  obtain ⟨key, y, e1, e2⟩ := it.2 i u (by simpa using h2)
  obtain ⟨y', hy, _⟩ := rel.at e1
  rw [List.getElem?_map, hy] at h1
  obtain rfl : kV key = x := Option.some.inj h1
  exact nW e2
 exact ⟨.ref s.heap.objs.size, _, I.laid (t' := tk) k (Nat.le_refl _) (show aU X.prog X.w _ h' _ (.lst (kvs.map fun p => kV p.1)) from ⟨by rw [List.length_map]; exact z, acc.toList, c, rv, by simpa using hl⟩), rfl, q _ I.fresh⟩
end
open PySem PySem.Spec PyProof.Rows
section
variable {prog : Program} {w : World} {A : Around} {E : Value -> Shared -> Prop} {s : Shared}
theorem cv {it t : Addr} {i : Nat} {its : Array Value} {x : Value} {Q : Value -> Shared -> Prop} (hit : s.heap.IsTupleIter it t i) (ht : s.heap.IsTuple t its) (hx : its[i]? = some x)
  (hQ : ∀ h', h'.IsTupleIter it t (i + 1) -> Heap.SameBut it s.heap h' -> Q x { s with heap := h' }) : wpAny (model prog w) A (Builtin.SmallTypes.nextOf (.ref it)) Q E s := by
 obtain ⟨o, ho, hc, hd⟩ := id hit
 obtain ⟨ol, hol, _, nl, hdl⟩ := ht
 unfold Builtin.SmallTypes.nextOf
 refine wpAny_bind (wpAny_callSpecial?_slot (name := Str.ofString "__next__") hit.typeIs F.slot_tuple_iterator_next (wpAny_call_entry F.slot_tuple_iterator_next hit.typeIs F.entry_tuple_iterator_next ?_ (F.args_tuple_iterator_next_1 _)))
 show wpAny _ _ (field (.ref it) 0 >>= _) _ _ s; refine wpAny_bind (wpAny_field ho hd (x := .ref t) rfl ?_)
 show wpAny _ _ (if (Value.ref t == Value.none) = true then _ else _) _ _ s; rw [if_neg (show ¬ ((Value.ref t == Value.none) = true) from Bool.false_ne_true)]
 show wpAny _ _ (field (.ref it) 1 >>= _) _ _ s; refine wpAny_bind (wpAny_field ho hd (x := .int i 0) rfl ?_)
 show wpAny _ _ (seqItems? (.ref t) >>= _) _ _ s; refine wpAny_bind (wpAny_seqItems hol hdl ?_); simp only [Int.toNat_natCast, hx]
 refine wpAny_bind (wpAny_setField ho hd (by simp) (wpAny_pure ⟨x, rfl, wpAny_pure (hQ _ ⟨_, Heap.get?_update_self _ ho (Obj.isFreed_of_fields (Obj.data_mapFields hd _)), (Obj.cls_mapFields ..).trans hc, by rw [Obj.data_mapFields hd]; simp [rawInt]⟩ (Heap.SameBut.update ..))⟩))
theorem eC {it t : Addr} {i : Nat} {its : Array Value} {Q : Value -> Shared -> Prop} (hh : A.handled = none) (hit : s.heap.IsTupleIter it t i) (ht : s.heap.IsTuple t its) (hx : its[i]? = none)
  (hE : ∀ h' e, Heap.ExtBut it s.heap h' -> (∃ o, h'.get? e = some o /\ o.cls = .type "StopIteration") -> E (.ref e) { s with heap := h' }) : wpAny (model prog w) A (Builtin.SmallTypes.nextOf (.ref it)) Q E s := by
 obtain ⟨o, ho, hc, hd⟩ := id hit
 obtain ⟨ol, hol, _, nl, hdl⟩ := ht
 unfold Builtin.SmallTypes.nextOf
 refine wpAny_bind (wpAny_callSpecial?_slot (name := Str.ofString "__next__") hit.typeIs F.slot_tuple_iterator_next (wpAny_call_entry F.slot_tuple_iterator_next hit.typeIs F.entry_tuple_iterator_next ?_ (F.args_tuple_iterator_next_1 _)))
 show wpAny _ _ (field (.ref it) 0 >>= _) _ _ s; refine wpAny_bind (wpAny_field ho hd (x := .ref t) rfl ?_)
 show wpAny _ _ (if (Value.ref t == Value.none) = true then _ else _) _ _ s; rw [if_neg (show ¬ ((Value.ref t == Value.none) = true) from Bool.false_ne_true)]
 show wpAny _ _ (field (.ref it) 1 >>= _) _ _ s; refine wpAny_bind (wpAny_field ho hd (x := .int i 0) rfl ?_)
 show wpAny _ _ (seqItems? (.ref t) >>= _) _ _ s; refine wpAny_bind (wpAny_seqItems hol hdl ?_); simp only [Int.toNat_natCast, hx]
 refine wpAny_bind (wpAny_rule (wpAny_bind (wpAny_setField ho hd (by simp) ?_))); show wpAny _ _ (newExc (.type "StopIteration") [] >>= _) _ _ _
 refine wpAny_bind ?_; simp only [newExc, newTuple]; refine wpAny_bind (wpAny_newObj_type ?_ (by size_fits))
 refine wpAny_bind (m := firstArgMember _ _) (wpAny_of_eq (a := Value.none) (by first | rfl | (simp only [firstArgMember]; rfl)) (wpAny_newObj_type ?_ (by size_fits)))
 simp only [raiseNew]; refine wpAny_bind (wpAny_handled ?_); first | rw [show A.in1.handled = none from hh] | rw [hh]
 refine wpAny_bind (wpAny_pure (wpAny_throw (hE _ _ (((Heap.SameBut.update ..).extBut.push _).push _) ⟨_, Heap.get?_push_size _ rfl, rfl⟩)))
end
section
variable {X : Cx}
end
open PySem PySem.Spec PyProof.Rows PySem.W
section
variable {X : Cx}
variable {tg : Expr}
end
noncomputable def eD (p : Prop) : Bool := @decide p (Classical.propDecidable p)
theorem cK {p : Prop} : eD p = true ↔ p := by unfold eD; exact @decide_eq_true_iff p (Classical.propDecidable p)
theorem dG {p : Prop} {b : Bool} (h : b = true ↔ p) : b = eD p := by rw [Bool.eq_iff_iff, cK]; exact h
theorem cq {p : Prop} (h : ¬ p) : false = eD p := dG ⟨fun z => (nomatch z), fun z => absurd z h⟩
mutual
theorem Rep.inj {H : Hp} : ∀ (d e : Dv) (v : V), Rep H d v -> Rep H e v -> d = e
 | .tup ds, e, v, h1, h2 => by
  simp only [Rep] at h1
  obtain ⟨a, vs, rfl, ha, rs⟩ := h1
  cases e with
  | tup es => simp only [Rep] at h2; obtain ⟨b, ws, eb, hb, rs2⟩ := h2; cases eb; rw [ha] at hb; cases hb; rw [Reps.inj ds es vs rs rs2]
  | lst es => simp only [Rep] at h2; obtain ⟨b, ws, eb, hb, rs2⟩ := h2; cases eb; rw [ha] at hb; cases hb
  | dct => simp only [Rep] at h2; obtain ⟨b, eb, hb⟩ := h2; cases eb; rw [ha] at hb; cases hb
  | _ => simp only [Rep] at h2; cases h2
 | .lst ds, e, v, h1, h2 => by
  simp only [Rep] at h1
  obtain ⟨a, vs, rfl, ha, rs⟩ := h1
  cases e with
  | lst es => simp only [Rep] at h2; obtain ⟨b, ws, eb, hb, rs2⟩ := h2; cases eb; rw [ha] at hb; cases hb; rw [Reps.inj ds es vs rs rs2]
  | tup es => simp only [Rep] at h2; obtain ⟨b, ws, eb, hb, rs2⟩ := h2; cases eb; rw [ha] at hb; cases hb
  | dct => simp only [Rep] at h2; obtain ⟨b, eb, hb⟩ := h2; cases eb; rw [ha] at hb; cases hb
  | _ => simp only [Rep] at h2; cases h2
 | .dct, e, v, h1, h2 => by
  simp only [Rep] at h1
  obtain ⟨a, rfl, ha⟩ := h1
  cases e with
  | dct => rfl
  | tup es => simp only [Rep] at h2; obtain ⟨b, ws, eb, hb, rs2⟩ := h2; cases eb; rw [ha] at hb; cases hb
  | lst es => simp only [Rep] at h2; obtain ⟨b, ws, eb, hb, rs2⟩ := h2; cases eb; rw [ha] at hb; cases hb
  | _ => simp only [Rep] at h2; cases h2
 | .non, e, v, h1, h2 => by
  simp only [Rep] at h1; subst h1
  cases e with
  | non => rfl
  | tup es => simp only [Rep] at h2; obtain ⟨b, ws, eb, _⟩ := h2; cases eb
  | lst es => simp only [Rep] at h2; obtain ⟨b, ws, eb, _⟩ := h2; cases eb
  | dct => simp only [Rep] at h2; obtain ⟨b, eb, _⟩ := h2; cases eb
  | _ => simp only [Rep] at h2; cases h2
 | .bl _, e, v, h1, h2 => by
  simp only [Rep] at h1; subst h1
  cases e with
  | bl b => simp only [Rep] at h2; cases h2; rfl
  | tup es => simp only [Rep] at h2; obtain ⟨b, ws, eb, _⟩ := h2; cases eb
  | lst es => simp only [Rep] at h2; obtain ⟨b, ws, eb, _⟩ := h2; cases eb
  | dct => simp only [Rep] at h2; obtain ⟨b, eb, _⟩ := h2; cases eb
  | _ => simp only [Rep] at h2; cases h2
 | .int _, e, v, h1, h2 => by
  simp only [Rep] at h1; subst h1
  cases e with
  | int b => simp only [Rep] at h2; cases h2; rfl
  | tup es => simp only [Rep] at h2; obtain ⟨b, ws, eb, _⟩ := h2; cases eb
  | lst es => simp only [Rep] at h2; obtain ⟨b, ws, eb, _⟩ := h2; cases eb
  | dct => simp only [Rep] at h2; obtain ⟨b, eb, _⟩ := h2; cases eb
  | _ => simp only [Rep] at h2; cases h2
 | .str _, e, v, h1, h2 => by
  simp only [Rep] at h1; subst h1
  cases e with
  | str b => simp only [Rep] at h2; cases h2; rfl
  | tup es => simp only [Rep] at h2; obtain ⟨b, ws, eb, _⟩ := h2; cases eb
  | lst es => simp only [Rep] at h2; obtain ⟨b, ws, eb, _⟩ := h2; cases eb
  | dct => simp only [Rep] at h2; obtain ⟨b, eb, _⟩ := h2; cases eb
  | _ => simp only [Rep] at h2; cases h2
theorem Reps.inj {H : Hp} : ∀ (ds es : List Dv) (vs : List V), Reps H ds vs -> Reps H es vs -> ds = es
 | [], es, vs, h1, h2 => by
  simp only [Reps] at h1; subst h1
  cases es with
  | nil => rfl
  | cons e es => simp only [Reps] at h2; obtain ⟨v, r, e2, _⟩ := h2; cases e2
 | d :: ds, es, vs, h1, h2 => by
  simp only [Reps] at h1
  obtain ⟨v, r, rfl, r1, rs1⟩ := h1
  cases es with
  | nil => simp only [Reps] at h2; cases h2
  | cons e es =>
   simp only [Reps] at h2
   obtain ⟨v2, r2, e2, r3, rs3⟩ := h2
   cases e2
   rw [Rep.inj d e v r1 r3, Reps.inj ds es r rs1 rs3]
end
inductive Pl : Nat -> Dv -> Prop
 | int {n : Nat} {i : Int} : Pl n (.int i)
 | str {n : Nat} {x : Str} : Pl n (.str x)
 | non {n : Nat} : Pl n .non
 | tup {n : Nat} {ds : List Dv} : (∀ d ∈ ds, Pl n d) -> Pl (n + 1) (.tup ds)
theorem Pl.up {m n : Nat} {d : Dv} (h : Pl m d) : m <= n -> Pl n d := by
 induction h generalizing n with
 | int => intro _; exact .int
 | str => intro _; exact .str
 | non => intro _; exact .non
 | tup _ ih =>
  intro l
  obtain ⟨k, rfl⟩ : ∃ k, n = k + 1 := ⟨n - 1, by omega⟩
  exact .tup fun d hd => ih d hd (by omega)
theorem hX {ds es : List Dv} : ((List.range (min ds.length es.length)).all (fun j => eD (ds[j]? = es[j]?)) && ds.length == es.length) = eD (Dv.tup ds = .tup es) := by
 refine dG ?_
 rw [Bool.and_eq_true, List.all_eq_true, beq_iff_eq]
 constructor
 ·rintro ⟨h, hl⟩
  congr 1
  refine List.ext_getElem? fun j => ?_
  by_cases hj : j < ds.length
  ·exact cK.mp (h j (List.mem_range.mpr (by omega)))
  ·rw [List.getElem?_eq_none (by omega), List.getElem?_eq_none (by omega)]
 ·intro h
  cases h
  exact ⟨fun j _ => cK.mpr rfl, rfl⟩
section
variable {X : Cx} {pins : List (Addr × Obj)} {σ : St} {H : Hp} {s : Shared}
theorem dN (I : Inv X pins σ H s) {A : Around} {n : Nat} {ds es : List Dv} {vs ws : List V} {its its2 : List Value}
  (h : ∀ d ∈ ds, ∀ e ∈ es, ∀ (v w : V) (a b : Value), Rep H d v -> Rep H e w -> aR v a -> aR w b -> SeqAt.EqAt A s a b (eD (d = e))) (rs1 : Reps H ds vs) (rs2 : Reps H es ws) (rv1 : aF vs its) (rv2 : aF ws its2) :
  its.toArray.size = ds.length /\ its2.toArray.size = es.length /\ ∀ j (h1 : j < its.toArray.size) (h2 : j < its2.toArray.size), SeqAt.EqAt A s its.toArray[j] its2.toArray[j] (eD (ds[j]? = es[j]?)) := by
 have l1 := rs1.length
 have l2 := rs2.length
 have l3 := rv1.length
 have l4 := rv2.length
 refine ⟨by simp; omega, by simp; omega, fun j h1 h2 => ?_⟩
 have hj : j < its.length := by simpa using h1
 have hj2 : j < its2.length := by simpa using h2
 obtain ⟨u, hu1, ru⟩ := aF.get (i := j) (x := vs[j]'(by omega)) rv1 (List.getElem?_eq_getElem _)
 obtain ⟨u2, hu2, ru2⟩ := aF.get (i := j) (x := ws[j]'(by omega)) rv2 (List.getElem?_eq_getElem _)
 obtain ⟨d, hd, Rd⟩ := rs1.get (i := j) (v := vs[j]'(by omega)) (List.getElem?_eq_getElem _)
 obtain ⟨d2, hd2, Rd2⟩ := rs2.get (i := j) (v := ws[j]'(by omega)) (List.getElem?_eq_getElem _)
 have e1 : its.toArray[j] = u := by
  rw [List.getElem?_eq_getElem hj] at hu1
  simpa using Option.some.inj hu1
 have e2 : its2.toArray[j] = u2 := by
  rw [List.getElem?_eq_getElem hj2] at hu2
  simpa using Option.some.inj hu2
 rw [e1, e2, hd, hd2]
 have e3 : eD (some d = some d2) = eD (d = d2) := dG (by rw [cK]; exact ⟨Option.some.inj, fun z => by rw [z]⟩)
 rw [e3]
 exact h d (List.mem_of_getElem? hd) d2 (List.mem_of_getElem? hd2) _ _ _ _ Rd Rd2 ru ru2
theorem kj (I : Inv X pins σ H s) {n : Nat} {d : Dv} (h : Pl n d) : ∀ {e : Dv}, Pl n e -> ∀ {A : Around} {v w : V} {a b : Value}, A.units + n < cLine -> Rep H d v -> Rep H e w -> aR v a -> aR w b -> SeqAt.EqAt A s a b (eD (d = e)) := by
 induction h with
 | @int n i =>
  intro e he A v w a b hu r1 r2 q1 q2
  simp only [Rep] at r1
  subst r1
  obtain ⟨t, rfl⟩ := (show ∃ t, a = Value.int i t from q1)
  cases he with
  | @int _ j => simp only [Rep] at r2; subst r2; obtain ⟨u, rfl⟩ := (show ∃ t, b = Value.int j t from q2); rw [<- dG (b := (i == j)) (by rw [beq_iff_eq]; exact ⟨fun z => by rw [z], fun z => Dv.int.inj z⟩)]; exact SeqAt.EqAt.int_int i t j u
  | @str _ x => simp only [Rep] at r2; subst r2; obtain ⟨u, rfl⟩ := (show ∃ t, b = Value.str x t from q2); rw [<- cq nofun]; exact SeqAt.EqAt.int_str i t x u
  | non => simp only [Rep] at r2; subst r2; cases q2; rw [<- cq nofun]; exact SeqAt.EqAt.int_none i t
  | @tup n es _ => simp only [Rep] at r2; obtain ⟨l, ws, rfl, hl, _⟩ := r2; cases q2; obtain ⟨its, _, p, _⟩ := I.tuple (SqT.of hl); rw [<- cq nofun]; exact SeqAt.EqAt.int_tuple i t p (by omega)
 | @str n x =>
  intro e he A v w a b hu r1 r2 q1 q2
  simp only [Rep] at r1
  subst r1
  obtain ⟨t, rfl⟩ := (show ∃ t, a = Value.str x t from q1)
  cases he with
  | @int _ j => simp only [Rep] at r2; subst r2; obtain ⟨u, rfl⟩ := (show ∃ t, b = Value.int j t from q2); rw [<- cq nofun]; exact SeqAt.EqAt.str_int x t j u
  | @str _ y => simp only [Rep] at r2; subst r2; obtain ⟨u, rfl⟩ := (show ∃ t, b = Value.str y t from q2); rw [<- dG (b := (x == y)) (by rw [beq_iff_eq]; exact ⟨fun z => by rw [z], fun z => Dv.str.inj z⟩)]; exact SeqAt.EqAt.str_str x t y u
  | non => simp only [Rep] at r2; subst r2; cases q2; rw [<- cq nofun]; exact SeqAt.EqAt.str_none x t
  | @tup n es _ => simp only [Rep] at r2; obtain ⟨l, ws, rfl, hl, _⟩ := r2; cases q2; obtain ⟨its, _, p, _⟩ := I.tuple (SqT.of hl); rw [<- cq nofun]; exact SeqAt.EqAt.str_tuple x t p (by omega)
 | @non n =>
  intro e he A v w a b hu r1 r2 q1 q2
  simp only [Rep] at r1
  subst r1
  cases q1
  cases he with
  | @int _ j => simp only [Rep] at r2; subst r2; obtain ⟨u, rfl⟩ := (show ∃ t, b = Value.int j t from q2); rw [<- cq nofun]; exact SeqAt.EqAt.none_int j u
  | @str _ y => simp only [Rep] at r2; subst r2; obtain ⟨u, rfl⟩ := (show ∃ t, b = Value.str y t from q2); rw [<- cq nofun]; exact SeqAt.EqAt.none_str y u
  | non => simp only [Rep] at r2; subst r2; cases q2; rw [<- dG (b := true) ⟨fun _ => rfl, fun _ => rfl⟩]; exact SeqAt.EqAt.same _
  | @tup n es _ => simp only [Rep] at r2; obtain ⟨l, ws, rfl, hl, _⟩ := r2; cases q2; obtain ⟨its, _, p, _⟩ := I.tuple (SqT.of hl); rw [<- cq nofun]; exact SeqAt.EqAt.none_tuple p (by omega)
 | @tup n ds hds ih =>
  intro e he A v w a b hu r1 r2 q1 q2
  have r1' := r1
  simp only [Rep] at r1
  obtain ⟨l, vs, rfl, h1, rs1⟩ := r1
  cases q1
  obtain ⟨its, rv1, p1, _⟩ := I.tuple (SqT.of h1)
  cases he with
  | @int _ j => simp only [Rep] at r2; subst r2; obtain ⟨u, rfl⟩ := (show ∃ t, b = Value.int j t from q2); rw [<- cq nofun]; exact SeqAt.EqAt.tuple_int j u p1 (by omega)
  | @str _ y => simp only [Rep] at r2; subst r2; obtain ⟨u, rfl⟩ := (show ∃ t, b = Value.str y t from q2); rw [<- cq nofun]; exact SeqAt.EqAt.tuple_str y u p1 (by omega)
  | non => simp only [Rep] at r2; subst r2; cases q2; rw [<- cq nofun]; exact SeqAt.EqAt.tuple_none p1 (by omega)
  | @tup _ es hes =>
   have r2' := r2
   simp only [Rep] at r2
   obtain ⟨b', ws, rfl, h2, rs2⟩ := r2
   cases q2
   obtain ⟨its2, rv2, p2, _⟩ := I.tuple (SqT.of h2)
   have hu' : A.in1.units + n < cLine := by show A.units + 1 + n < cLine; omega
   obtain ⟨z1, z2, q⟩ := dN I (A := A.in1) (n := n) (fun d hd e he v w a b r1 r2 q1 q2 => ih d hd (hes e he) hu' r1 r2 q1 q2) rs1 rs2 rv1 rv2
   by_cases hlb : l = b'
   ·subst hlb
    rw [<- dG (b := true) ⟨fun _ => Rep.inj _ _ _ r1' r2', fun _ => rfl⟩]
    exact SeqAt.EqAt.same _
   ·have r := SeqAt.RcAt.tuples (e := fun j => eD (ds[j]? = es[j]?)) p1 p2 (by omega) q
    rw [z1, z2, hX] at r
    exact SeqAt.EqAt.of_refs hlb r
end
section
variable {X : Cx}
theorem ut (hu : X.A.units + 150 < cLine) : OpR X (compareOp .Eq) (fun x y H Q => ∃ (n : Nat) (ds es : List Dv), Pl n (.tup ds) /\ Pl n (.tup es) /\ n <= 140 /\ Rep H (.tup ds) x /\ Rep H (.tup es) y /\ ∀ b : Bool, (b = true ↔ ds = es) -> Q (.bl b) H) := by
 intro pins s σ H x y v u Q I rx ry h
 obtain ⟨n, ds, es, hd, he, hn, r1, r2, q⟩ := h
 simp only [Rep] at r1 r2
 obtain ⟨l, vs, rfl, h1, rs1⟩ := r1
 obtain ⟨b', ws, rfl, h2, rs2⟩ := r2
 cases rx
 cases ry
 obtain ⟨its, rv1, p1, _⟩ := I.tuple (SqT.of h1)
 obtain ⟨its2, rv2, p2, _⟩ := I.tuple (SqT.of h2)
 cases hd with
 | @tup n ds hds =>
 cases he with
 | @tup _ es hes =>
 have hu' : X.A.in1.units + n < cLine := by show X.A.units + 1 + n < cLine; omega
 obtain ⟨z1, z2, w⟩ := dN I (A := X.A.in1) (n := n) (fun d hd e he v w a b r1 r2 q1 q2 => kj I (hds d hd) (hes e he) hu' r1 r2 q1 q2) rs1 rs2 rv1 rv2
 refine SeqAt.RcAt.tuples (e := fun j => eD (ds[j]? = es[j]?)) p1 p2 (by omega) w X.prog X.w X.xe _ ?_
 rw [z1, z2, hX]
 exact ⟨.bl _, H, I, rfl, q _ (by rw [cK]; exact ⟨fun z => Dv.tup.inj z, fun z => by rw [z]⟩)⟩
end
section
variable {X : Cx} {k : Nat} {f : Addr} {fd : FuncData} {ps : List Str} {sp : Sp} {x : Str} {p pos : Pos} {e : Expr} {es : List Expr} {t : TA}
def uB (f : Addr) (i : Nat) (sp : Sp) (t : TA) : TE := fun σ H Q => σ[i]? = some (some (.ref f)) /\ t σ H fun vs H1 => sp (vs ++ []) H1 Q E0
theorem qT (i : Nat) (F : bg X.prog X.w X.K X.mg X.base CX0 k f fd ps sp) (hr : dj k X.A) (hk : PySem.W.keepIn X.K (.ref f) = true) (hb : gu X.K fd ps []) (ha : PA X (e :: es) t) (hN : X.N[i]? = some x := by rfl)
  (hv : Vis X.env.scope x := by first | exact Or.inl rfl | exact Or.inr (Or.inl rfl) | exact Or.inr (Or.inr rfl)) (hd : (x == ("__debug__" : Str)) = false := by decide) (hcd : (x == ("__classdict__" : Str)) = false := by decide)
  (he : starEach (e :: es) X.env = (false, eval e X.env) :: starEach es X.env := by rfl) (hpl : (backTo pos (starEach es X.env)).any (·.1) = false := by rfl) : PE X (.Call (.Name x p) (e :: es) [] pos) (uB f i sp t) := by
 intro pins s σ H Q I h
 obtain ⟨h1, h2⟩ := h
 refine wpAny_Call_Name_kw (thn (pF (X := X) (pos := p) hN hv hd hcd pins s σ H (fun v H' => v = .ref f /\ H' = H) I ⟨_, h1, rfl, rfl⟩) fun u s1 ⟨v, H1, I1, r1, e1, e2⟩ => ?_)
 subst e1 e2
 cases r1
 exact PySem.W.callWith_K (h₀ := X.base) I1.ok.mod.kin hk (thn (ha pos pins s1 σ _ _ I1 h2) fun us s2 ⟨vs, H2, I2, r, q⟩ => ⟨I2.kIn, pY F hr hb .nil tL I2 r q⟩) he hpl
end
section
variable {prog : Program} {w : World} {A : Around} {E : Value -> Shared -> Prop} {s : Shared} {r l S : Addr} {items : Array Value}
end
section
variable {X : Cx} {e : Expr} {te : TE} {p p1 pos pos1 : Pos}
end
theorem cw {h : Heap} {a b : Addr} {o u : Obj} (h1 : h.get? a = some o) (h2 : h.get? b = some u) (n : o.cls ≠ u.cls) : a ≠ b := fun z => by subst z; rw [h1] at h2; cases h2; exact n rfl
section
variable {X : Cx}
end
section
variable {X : Cx} {pins : List (Addr × Obj)} {s : Shared} {σ : St} {H : Hp}
end
section
variable {X : Cx}
end
section
theorem bV : Slot "reversed" "__next__" "reversed.__next__" := Slot.of (owner := "reversed") (n := "__next__") (by rw [typeLookup_type, builtinLookup_eq_fast]; kernel_rfl) (by decide +kernel) (by decide +kernel) (by decide +kernel) (by first | exact .inl (by decide +kernel) | exact .inr (by decide +kernel)) (by rw [isSubtype_type]; kernel_rfl)
theorem fE : Slot "reversed" "__iter__" "reversed.__iter__" := Slot.of (owner := "reversed") (n := "__iter__") (by rw [typeLookup_type, builtinLookup_eq_fast]; kernel_rfl) (by decide +kernel) (by decide +kernel) (by decide +kernel) (by first | exact .inl (by decide +kernel) | exact .inr (by decide +kernel)) (by rw [isSubtype_type]; kernel_rfl)
theorem jh : Slot "reversed" "__init__" "object.__init__" := Slot.of (owner := "object") (n := "__init__") (by rw [typeLookup_type, builtinLookup_eq_fast]; kernel_rfl) (by decide +kernel) (by decide +kernel) (by decide +kernel) (by first | exact .inl (by decide +kernel) | exact .inr (by decide +kernel)) (by rw [isSubtype_type]; kernel_rfl)
theorem eZ : entryFor table "reversed.__next__" = some Builtin.«reversed.__next__» := entryFor_of_tree (by kernel_rfl)
theorem iG : entryFor table "reversed.__iter__" = some Builtin.«dict_keyiterator.__iter__» := entryFor_alias (id' := "dict_keyiterator.__iter__") (by kernel_rfl) (by first | rfl | decide +kernel | (unfold String.splitOn; simp +decide [String.splitOnAux])) (by decide +kernel) (by kernel_rfl)
theorem fK (a : Value) : argsOk "reversed.__next__" ⟨[a], []⟩ := by unfold argsOk; kernel_rfl
theorem jj (a : Value) : argsOk "reversed.__iter__" ⟨[a], []⟩ := by unfold argsOk; kernel_rfl
theorem jB (a b : Value) : argsOk "object.__init__" ⟨[a, b], []⟩ := by unfold argsOk; kernel_rfl
theorem oX : TypeCalled "reversed" "reversed.__new__" "object.__init__" := ⟨by decide +kernel, F.create_reversed, ⟨_, _, F.mro_reversed⟩, F.made_reversed, F.plain_reversed_new, F.sub_reversed_self, jh⟩
theorem iB : typeLookup (.type "tuple") "__reversed__" = pure none := by rw [typeLookup_type, builtinLookup_eq_fast]; kernel_rfl
theorem mO : isSubtype (.type "tuple") (.type "dict") = pure false := by rw [isSubtype_type]; kernel_rfl
end
section
variable {prog : Program} {w : World} {A : Around} {E : Value -> Shared -> Prop} {s : Shared}
def iZ (t : Addr) (i : Int) : Obj := { cls := .type "reversed", data := .fields #[.ref t, rawInt i] }
def fb (h : Heap) (a t : Addr) (i : Int) : Prop := ∃ o, h.get? a = some o /\ o.cls = .type "reversed" /\ o.data = .fields #[.ref t, rawInt i]
theorem fb.ty {a t : Addr} {i : Int} (x : fb s.heap a t i) : s.TypeIs (.ref a) "reversed" := let ⟨o, ho, hc, _⟩ := x; ⟨o, ho, hc⟩
theorem fb.at' {h h' : Heap} {a t : Addr} {i : Int} (x : fb h a t i) (e : ∀ o, h.get? a = some o -> h'.get? a = some o) : fb h' a t i := let ⟨o, ho, r⟩ := x; ⟨o, e _ ho, r⟩
theorem uH (t : Addr) (items : Array Value) (hfit : (items.size : Int) < 2 ^ 63) : MeetsIn prog w (Builtin.«reversed.__new__» ⟨[.type "reversed", .ref t], []⟩) (fun _ R s => IsTup s.heap t items /\ ∀ tk, R (.ok (.ret (.ref s.heap.objs.size))) { s with heap := s.heap.push (iZ t ((items.size : Int) - 1)), toks := tk }) :=
 .of_wp fun A R s h => by
  obtain ⟨ht, h⟩ := h
  unfold Builtin.«reversed.__new__»
  refine wpAny_bind (wpAny_of_eq (newClass_reversed _) ?_)
  try dsimp only
  refine wpAny_bind (wpAny_of_eq (a := ()) (by first | rfl | kernel_rfl) (wpAny_bind (wpAny_of_eq (a := ()) (by first | rfl | kernel_rfl) ?_)))
  try dsimp only
  refine wpAny_bind (wpAny_specialOf ht.typeIs iB ?_)
  try dsimp only
  refine wpAny_bind ?_
  show wpAny _ _ (isInstance (.ref t) (.type "dict") >>= _) _ _ s
  refine wpAny_bind (wpAny_isInstance ht.typeIs mO ?_)
  try dsimp only
  simp only [Bool.false_eq_true, if_false]
  refine wpAny_bind (wpAny_specialOf ht.typeIs F.slot_tuple_getitem.lookup ?_)
  dsimp only
  rw [if_pos (by decide)]
  refine wpAny_pure ?_
  simp only [Bool.not_true, Bool.false_eq_true, if_false]
  refine wpAny_bind (len_tuple ht hfit ?_)
  refine wpAny_bind (wpAny_of_eq (a := some (items.size : Int)) rfl ?_)
  show wpAny _ _ (newObj (.type "reversed") (.fields #[.ref t, rawInt ((items.size : Int) - 1)]) >>= _) _ _ _
  refine wpAny_bind (wpAny_newObj_type ?_ (by size_fits))
  exact wpAny_pure ⟨_, rfl, h _⟩
theorem rJ {t : Addr} {items : Array Value} {Q : Value -> Shared -> Prop} (ht : IsTup s.heap t items) (hfit : (items.size : Int) < 2 ^ 63) (h : ∀ tk, Q (.ref s.heap.objs.size) { s with heap := s.heap.push (iZ t ((items.size : Int) - 1)), toks := tk }) : wpAny (model prog w) A (call (.type "reversed") [.ref t]) Q E s :=
 callType_newIn oX (by decide) (F.typeCall_reversed_1 _) (F.newCall_reversed_1 _) (fun obj => jB obj _) F.entry_reversed_new (uH t items hfit) ⟨ht, fun tk => ⟨⟨_, Heap.get?_push_size _ rfl, rfl⟩, h tk⟩⟩
theorem sV {it t : Addr} {i : Nat} {items : Array Value} {x : Value} {Q : Option Value -> Shared -> Prop} (hit : fb s.heap it t (i : Int)) (ht : IsTup s.heap t items) (hx : items[i]? = some x) (hfit : (items.size : Int) < 2 ^ 63)
  (hQ : ∀ h' tk, fb h' it t ((i : Int) - 1) -> Heap.SameBut it s.heap h' -> Q (some x) { s with heap := h', toks := tk }) : wpAny (model prog w) A (pyNext (.ref it)) Q E s := by
 obtain ⟨o, ho, hc, hd⟩ := id hit
 have hi : i < items.size := by have := (Array.getElem?_eq_some_iff.mp hx).1; exact this
 unfold pyNext
 refine wpAny_bind (wpAny_attempt (wpAny_callSpecial?_slot (name := Str.ofString "__next__") hit.ty bV (wpAny_call_entry bV hit.ty eZ ?_ (fK _))))
 unfold Builtin.«reversed.__next__»
 refine wpAny_bind (wpAny_of_eq (a := (Value.ref it, [])) rfl ?_)
 try dsimp only
 refine wpAny_bind (wpAny_field ho hd (x := .ref t) rfl (wpAny_bind (wpAny_field ho hd (x := rawInt (i : Int)) rfl ?_)))
 show wpAny _ _ (if (i : Int) < 0 then _ else _) _ _ s
 rw [if_neg (by omega)]
 refine wpAny_bind (wpAny_specialOf ht.typeIs F.slot_tuple_getitem.lookup ?_)
 simp only [Option.isNone_some, Bool.false_eq_true, if_false]
 refine wpAny_bind (wpAny_mkInt (wpAny_bind (wpAny_attempt (getItem_tuple (j := i) (items := items) ht (by omega) (by omega) (seqIndex_of (by omega) (by omega)) hx ?_))))
 refine wpAny_bind (wpAny_field ho hd (x := rawInt (i : Int)) rfl ?_)
 show wpAny _ _ (setField (.ref it) 1 (rawInt ((i : Int) - 1)) >>= _) _ _ _
 refine wpAny_bind (wpAny_setField ho hd (by simp) ?_)
 refine wpAny_pure ⟨x, rfl, wpAny_pure (hQ _ _ ?_ (Heap.SameBut.update ..))⟩
 exact ⟨_, Heap.get?_update_self _ ho (Obj.isFreed_of_fields (Obj.data_mapFields hd _)), (Obj.cls_mapFields ..).trans hc, by rw [Obj.data_mapFields hd]; simp⟩
theorem uT {it t : Addr} {Q : Option Value -> Shared -> Prop} (hh : A.handled = none) (hit : fb s.heap it t (-1))
  (hQ : ∀ h' tk, Heap.ExtBut it s.heap h' -> Q none { s with heap := h', toks := tk }) : wpAny (model prog w) A (pyNext (.ref it)) Q E s := by
 obtain ⟨o, ho, hc, hd⟩ := id hit
 unfold pyNext
 refine wpAny_bind (wpAny_attempt (wpAny_callSpecial?_slot (name := Str.ofString "__next__") hit.ty bV (wpAny_call_entry bV hit.ty eZ ?_ (fK _))))
 unfold Builtin.«reversed.__next__»
 refine wpAny_bind (wpAny_of_eq (a := (Value.ref it, [])) rfl ?_)
 try dsimp only
 refine wpAny_bind (wpAny_field ho hd (x := .ref t) rfl (wpAny_bind (wpAny_field ho hd (x := rawInt (-1)) rfl ?_)))
 show wpAny _ _ (if (-1 : Int) < 0 then _ else _) _ _ s
 rw [if_pos (by decide)]; refine wpAny_bind (wpAny_rule ?_)
 refine wpAny_bind ?_
 show wpAny _ _ (setField (.ref it) 1 (rawInt (-1)) >>= fun _ => setField (.ref it) 0 .none) _ _ s
 refine wpAny_bind (wpAny_setField ho hd (by simp) ?_)
 have h1 := Heap.get?_update_self (Obj.mapFields fun x => x.setIfInBounds 1 (rawInt (-1))) ho (Obj.isFreed_of_fields (Obj.data_mapFields hd _))
 have d1 := Obj.data_mapFields hd fun x => x.setIfInBounds 1 (rawInt (-1))
 refine wpAny_setField h1 d1 (by simp) ?_
 refine wpAny_bind ?_
 show wpAny _ _ (newExc (.type "StopIteration") [] >>= _) _ _ _
 refine wpAny_bind ?_
 simp only [newExc, newTuple]
 refine wpAny_bind (wpAny_newObj_type ?_ (by size_fits)); refine wpAny_bind (m := firstArgMember _ _) (wpAny_of_eq (a := Value.none) (by first | rfl | (simp only [firstArgMember]; rfl)) (wpAny_newObj_type ?_ (by size_fits)))
 simp only [raiseNew]
 refine wpAny_bind (wpAny_handled ?_)
 rw [show A.in1.handled = none from hh]; refine wpAny_bind (wpAny_pure (wpAny_throw ?_))
 refine wpAny_bind (wpAny_isInstance (T := "StopIteration") (b := true) ⟨_, Heap.get?_push_size _ rfl, rfl⟩ isSubtype_stop ?_)
 refine wpAny_pure (hQ _ _ ?_)
 intro b u hb e
 exact Heap.get?_push_of_some _ (Heap.get?_push_of_some _ ((Heap.get?_update_other _ _ (Ne.symm hb)).trans ((Heap.get?_update_other _ _ (Ne.symm hb)).trans e)))
theorem nj {it t : Addr} {i : Int} {Q : Value -> Shared -> Prop} (hit : fb s.heap it t i) (h : Q (.ref it) s) : wpAny (model prog w) A (pyIter (.ref it)) Q E s := by
 refine wpAny_pyIter_slot hit.ty fE (wpAny_call_entry fE hit.ty iG ?_ (jj _))
 show wpAny _ _ (ret (.ref it)) _ _ s
 exact wpAny_pure ⟨_, rfl, "reversed", _, hit.ty, bV.lookup, h⟩
end
section
variable {X : Cx} {tg e : Expr} {ta : TA} {p pos : Pos}
end
section
variable {X : Cx}
end
section
variable {X : Cx}
end
open PySem PySem.Spec PyProof.Rows
section
variable {σ : St} {H : Hp} {d e : Dv} {ds es : List Dv} {ta tb : TE} {t : TA} {l : Addr}
variable {i : Nat} {u : TS} {D : fF}
end
open PySem PySem.Spec PyProof.Rows PySem.W
section
variable {X : Cx}
end
section
variable {prog : Program} {w : World} {A : Around} {E : Value -> Shared -> Prop} {s : Shared}
theorem mN {t sl : Addr} {items : Array Value} {lo st : Int} {n : Nat} {Q : Value -> Shared -> Prop} (ht : IsTup s.heap t items) (hTs : s.TypeIs (.ref sl) "slice")
  (hap : ∀ {A' : Around} {E' : Value -> Shared -> Prop} {Q' : Int × Int × Nat -> Shared -> Prop}, Q' (lo, st, n) s -> wpAny (model prog w) A' (Builtin.Slice.sliceApplied (.ref sl) (pure (items.size : Int))) Q' E' s)
  (hw : (lo == 0 && st == 1 && n == items.size) = true -> Q (.ref t) s)
  (hn : Q (.ref s.heap.objs.size) { s with heap := s.heap.push { cls := .type "tuple", data := .seq ((List.range n).filterMap fun (k : Nat) => items[(lo + (k : Int) * st).toNat]?).toArray } })
  (hsz : ((List.range n).filterMap fun (k : Nat) => items[(lo + (k : Int) * st).toNat]?).toArray.size <= sizeLine) : wpAny (model prog w) A (getItem (.ref t) (.ref sl)) Q E s := by
 unfold getItem; try with_reducible refine wpAny_holding ?_
 (first | refine wpAny_bind (wpAny_pure ?_) | skip); refine wpAny_bind (wpAny_sequenceKey ht.typeIs (by decide) ?_)
 refine wpAny_bind (wpAny_callSpecial?_slot (name := Str.ofString "__getitem__") ht.typeIs PyProof.Rows.slot_tuple_getitem (wpAny_call_entry PyProof.Rows.slot_tuple_getitem ht.typeIs entry_tuple_getitem ?_ (args_tuple_getitem _ _)))
 show wpAny _ _ (Builtin.Tuple.tupleItemsOf (.ref t) >>= _) _ _ s; refine wpAny_bind (tupleItemsOf_ ht ?_)
 refine wpAny_bind (wpAny_typeOf hTs ?_); rw [if_pos (by decide)]
 refine wpAny_bind (hap ?_)
 show wpAny _ _ (if (lo == 0 && st == 1 && n == items.size) = true then _ else _) _ _ s
 by_cases c : (lo == 0 && st == 1 && n == items.size) = true
 ·rw [if_pos c]
  refine wpAny_bind (m := Builtin.Tuple.tupleIsExact (.ref t)) ?_
  unfold Builtin.Tuple.tupleIsExact
  refine wpAny_bind (wpAny_typeOf ht.typeIs (wpAny_pure ?_))
  show wpAny _ _ (if (Value.type "tuple" == Value.type "tuple") = true then _ else _) _ _ s
  rw [if_pos (by decide)]
  exact wpAny_bind (wpAny_rule (wpAny_bind (wpAny_pure (wpAny_pure ⟨_, rfl, wpAny_pure (hw c)⟩))))
 ·rw [if_neg c]
  first
   | exact wpAny_bind (m := Builtin.Tuple.tupleExact _) (wpAny_newObj_type (wpAny_pure ⟨_, rfl, wpAny_pure hn⟩) hsz)
   | exact wpAny_bind (m := Builtin.Tuple.tupleExact _) (wpAny_newObj_type (wpAny_bind (wpAny_pure (wpAny_pure ⟨_, rfl, wpAny_pure hn⟩))) hsz)
   | exact wpAny_bind (wpAny_bind (m := Builtin.Tuple.tupleExact _) (wpAny_newObj_type (wpAny_pure (wpAny_pure ⟨_, rfl, wpAny_pure hn⟩)) hsz))
   | exact wpAny_bind (wpAny_bind (m := Builtin.Tuple.tupleExact _) (wpAny_newObj_type (wpAny_pure ⟨_, rfl, wpAny_pure hn⟩) hsz))
end
section
variable {X : Cx}
def wg (K : PySem.W.Frag) : V -> Option Int -> Option Int -> Hp -> VK -> Prop := fun x lo hi H Q => ∃ a xs, x = .ref a /\ SqT K H a xs /\ (cG xs lo hi = xs -> Q (.ref a) H) /\ ∀ p, H p = none -> Q (.ref p) (upd H p (.tup (cG xs lo hi)))
theorem rR : SlR X (wg X.K) := by
 intro pins s σ H x v vl vu lo hi sl Q I rx hs pl pu h
 obtain ⟨a, xs, rfl, hx, hw, q⟩ := h
 cases rx
 by_cases c : HT.sIx xs.length 0 lo = 0 /\ HT.sIx xs.length xs.length hi = xs.length
 ·obtain ⟨its, r, ht, hz⟩ := I.tuple hx
  have hlen : its.toArray.size = xs.length := by rw [List.size_toArray]; exact r.length.symm
  have ec : cG xs lo hi = xs := by unfold cG; rw [c.1, c.2]; simp
  obtain ⟨os, hos, hcs, hds⟩ := id hs
  refine ⟨"tuple", _, PyProof.Rows.slot_tuple_getitem.lookup, ht.typeIs, mN (lo := ((HT.sIx its.toArray.size 0 lo : Nat) : Int)) (st := 1) (n := HT.sIx its.toArray.size its.toArray.size hi - HT.sIx its.toArray.size 0 lo) ht ⟨os, hos, hcs⟩ (fun q' => HT.sliceApplied_gen hs pl pu q') (fun _ => ⟨.ref a, H, I, rfl, hw ec⟩) ?_ ?_⟩
  ·rw [HT.pick_gen, hlen]
   refine ⟨.ref s.heap.objs.size, _, I.laid (t' := s.toks) (o := .tup (cG xs lo hi)) (fun b ob q => Heap.get?_push_of_some _ q) (Nat.le_refl _) ?_, rfl, q _ (I.hok.fresh (Nat.le_refl _))⟩
   exact ⟨Nat.le_trans (dS xs lo hi) hz, _, (r.drop (HT.sIx xs.length 0 lo)).take (HT.sIx xs.length xs.length hi - HT.sIx xs.length 0 lo), IsTup.new _ _, NoD.new _ rfl⟩
  ·rw [HT.pick_gen, List.size_toArray, List.length_take, List.length_drop]
   have : its.toArray.toList.length = xs.length := by simpa using hlen
   omega
 ·exact uS pins s σ H (.ref a) (.ref a) vl vu lo hi sl Q I rfl hs pl pu ⟨a, xs, rfl, hx, c, q⟩
end
section
variable {prog : Program} {w : World} {A : Around} {E : Value -> Shared -> Prop} {s : Shared}
end
section
variable {X : Cx}
end
section
variable {X : Cx} {pins : List (Addr × Obj)} {s : Shared} {σ : St} {H : Hp} {a : Addr} {kvs : List (Str × Addr)}
end
abbrev jd (h : Heap) (l1 : Addr) : Heap := h.push { cls := .type "tuple_iterator", data := .fields #[.ref l1, .int 0 0] }
abbrev jF (h : Heap) (l1 l2 : Addr) : Heap := (jd h l1).push { cls := .type "tuple_iterator", data := .fields #[.ref l2, .int 0 0] }
abbrev jK (h : Heap) (l1 l2 : Addr) : Heap := (jF h l1 l2).push { cls := .type "tuple", data := .seq #[.ref h.objs.size, .ref (jd h l1).objs.size] }
abbrev jz (h : Heap) (l1 l2 : Addr) : Heap := (jK h l1 l2).push { cls := .type "tuple", data := .seq #[.none, .none] }
abbrev gj (h : Heap) (l1 l2 : Addr) : Heap := (jz h l1 l2).push { cls := .type "zip", data := .fields #[.none, .bool false, .bool false, .ref (jF h l1 l2).objs.size, .ref (jK h l1 l2).objs.size] }
section
variable {prog : Program} {w : World} {A : Around} {E : Value -> Shared -> Prop} {s : Shared}
theorem lT {z TI TO i1 i2 l1 l2 : Addr} {k1 k2 : Nat} {xs ys : Array Value} {x y a b : Value} {Q : Value -> Shared -> Prop} (D : ZipApart z TI TO i1 i2 l1 l2) (hz : IsZip s.heap z TI TO .none) (hTI : IsPair s.heap TI (.ref i1) (.ref i2)) (hTO : IsPair s.heap TO a b)
  (h1 : s.heap.IsTupleIter i1 l1 k1) (h2 : s.heap.IsTupleIter i2 l2 k2) (hl1 : s.heap.IsTuple l1 xs) (hl2 : s.heap.IsTuple l2 ys) (hx : xs[k1]? = some x) (hy : ys[k2]? = some y)
  (hQ : ∀ h', IsZip h' z TI TO (rawInt s.heap.objs.size) -> IsPair h' TO x y -> h'.IsTupleIter i1 l1 (k1 + 1) -> h'.IsTupleIter i2 l2 (k2 + 1) -> IsPair h' s.heap.objs.size x y -> (∀ c o, c ≠ z -> c ≠ TO -> c ≠ i1 -> c ≠ i2 -> s.heap.get? c = some o -> h'.get? c = some o) -> Q (.ref s.heap.objs.size) { s with heap := h' }) :
  wpAny (model prog w) A (Builtin.«zip.__next__» ⟨[.ref z], []⟩) (fun fin s' => ∃ v, fin = .done (.ret v) /\ Q v s') E s := by
 show wpAny _ _ (field (.ref z) 2 >>= _) _ _ _; refine wpAny_bind (wpAny_field hz rfl (x := .bool false) rfl ?_)
 show wpAny _ _ (field (.ref z) 3 >>= _) _ _ _; refine wpAny_bind (wpAny_field hz rfl (x := .ref TI) rfl ?_); refine wpAny_bind (wpAny_seqItems hTI rfl ?_)
 show wpAny _ _ (Builtin.SmallTypes.ownedTupleIsFree (.ref z) >>= _) _ _ _; refine wpAny_bind ?_; unfold Builtin.SmallTypes.ownedTupleIsFree
 refine wpAny_bind (wpAny_field hz rfl (x := .none) rfl (wpAny_pure ?_)); simp only [if_true]; refine wpAny_bind (wpAny_rule ?_)
 refine wpAny_bind (wpAny_field hz rfl (x := .ref TO) rfl ?_); refine wpAny_bind (wpAny_setField_rec hz (by simp) fun g1 z1 c1 => ?_)
 replace z1 : IsZip g1 z TI TO .ellipsis := z1
 refine wpAny_bind ?_; simp only [List.zipIdx_cons, List.zipIdx_nil, List.forIn_cons, List.forIn_nil]; refine wpAny_bind (wpAny_bind (wpAny_onRaise ?_))
 show wpAny _ _ (Builtin.SmallTypes.nextOf (.ref i1) >>= _) _ _ _; refine wpAny_bind (cv (h1.extBut c1.extBut D.i1z) (hl1.extBut c1.extBut D.l1z) hx fun g2 it2 c2 => wpAny_pure ?_)
 have t2 : IsPair g2 TO a b := c2.extBut _ _ D.TOi1 (c1.extBut _ _ D.TOz hTO)
 refine wpAny_bind (wpAny_seqItems t2 rfl ?_); refine wpAny_bind (wpAny_updateSeq_pair t2 fun g3 t3 c3 => ?_)
 replace t3 : IsPair g3 TO x b := t3
 refine wpAny_bind (wpAny_letGo (wpAny_pure ?_)); refine wpAny_bind (wpAny_bind (wpAny_onRaise ?_))
 show wpAny _ _ (Builtin.SmallTypes.nextOf (.ref i2) >>= _) _ _ _; refine wpAny_bind (cv (((h2.extBut c1.extBut D.i2z).extBut c2.extBut D.i12.symm).extBut c3.extBut D.TOi2.symm) (((hl2.extBut c1.extBut D.l2z).extBut c2.extBut D.l2i1).extBut c3.extBut D.l2TO) hy fun g4 it4 c4 => wpAny_pure ?_)
 have t4 : IsPair g4 TO x b := c4.extBut _ _ D.TOi2 t3
 refine wpAny_bind (wpAny_seqItems t4 rfl ?_); refine wpAny_bind (wpAny_updateSeq_pair t4 fun g5 t5 c5 => ?_)
 replace t5 : IsPair g5 TO x y := t5
 refine wpAny_bind (wpAny_letGo (wpAny_pure (wpAny_pure ?_))); refine wpAny_bind (wpAny_seqItems t5 rfl ?_); refine wpAny_bind (wpAny_newTuple ?_)
 have sz : g5.objs.size = s.heap.objs.size := by rw [c5.1, c4.1, c3.1, c2.1, c1.1]
 have z5 : IsZip g5 z TI TO .ellipsis := c5.extBut _ _ D.TOz.symm (c4.extBut _ _ D.i2z.symm (c3.extBut _ _ D.TOz.symm (c2.extBut _ _ D.i1z.symm z1)))
 have k5 : ∀ c o, c ≠ z -> c ≠ TO -> c ≠ i1 -> c ≠ i2 -> s.heap.get? c = some o -> g5.get? c = some o := fun c o d1 d2 d3 d4 e => c5.extBut _ _ d2 (c4.extBut _ _ d4 (c3.extBut _ _ d2 (c2.extBut _ _ d3 (c1.extBut _ _ d1 e))))
 have j1 : g5.IsTupleIter i1 l1 (k1 + 1) := ((it2.extBut c3.extBut D.TOi1.symm).extBut c4.extBut D.i12).extBut c5.extBut D.TOi1.symm
 have j2 : g5.IsTupleIter i2 l2 (k2 + 1) := it4.extBut c5.extBut D.TOi2.symm
 have zlt : z < g5.objs.size := Heap.lt_size z5
 show wpAny _ _ (Builtin.SmallTypes.ownedTupleHandOut (.ref z) (.ref g5.objs.size) >>= _) _ _ _; refine wpAny_bind ?_; unfold Builtin.SmallTypes.ownedTupleHandOut
 have z6 : IsZip (g5.push { cls := .type "tuple", data := .seq #[x, y] }) z TI TO .ellipsis := Heap.get?_push_of_some _ z5
 refine wpAny_bind (wpAny_setField_rec z6 (by simp) fun g7 z7 c7 => ?_)
 replace z7 : IsZip g7 z TI TO (rawInt g5.objs.size) := z7
 refine wpAny_setField_rec z7 (by simp) fun g8 z8 c8 => ?_
 replace z8 : IsZip g8 z TI TO (rawInt g5.objs.size) := z8
 have up : ∀ c o, c ≠ z -> g5.get? c = some o -> g8.get? c = some o := fun c o d1 e => c8.extBut _ _ d1 (c7.extBut _ _ d1 (Heap.get?_push_of_some _ e))
 have p8 : IsPair g8 g5.objs.size x y := c8.extBut _ _ (Nat.ne_of_gt zlt) (c7.extBut _ _ (Nat.ne_of_gt zlt) (Heap.get?_push_size _ rfl))
 rw [sz] at z8 p8
 refine wpAny_pure ⟨_, rfl, ?_⟩
 show Q (.ref g5.objs.size) _; rw [sz]
 exact hQ g8 z8 (up _ _ D.TOz t5) (j1.at fun o e => up _ o D.i1z e) (j2.at fun o e => up _ o D.i2z e) p8 fun c o d1 d2 d3 d4 e => up c o d1 (k5 c o d1 d2 d3 d4 e)
theorem oC {z TI TO i1 i2 l1 l2 : Addr} {k1 k2 : Nat} {xs ys : Array Value} {a b : Value} {Q : Fin -> Shared -> Prop} (hh : A.handled = none) (D : ZipApart z TI TO i1 i2 l1 l2) (hz : IsZip s.heap z TI TO .none) (hTI : IsPair s.heap TI (.ref i1) (.ref i2)) (hTO : IsPair s.heap TO a b)
  (h1 : s.heap.IsTupleIter i1 l1 k1) (h2 : s.heap.IsTupleIter i2 l2 k2) (hl1 : s.heap.IsTuple l1 xs) (hl2 : s.heap.IsTuple l2 ys) (hend : xs[k1]? = none \/ ys[k2]? = none)
  (hE : ∀ h' e, (∀ c o, c ≠ z -> c ≠ TO -> c ≠ i1 -> c ≠ i2 -> s.heap.get? c = some o -> h'.get? c = some o) -> (∃ o, h'.get? e = some o /\ o.cls = .type "StopIteration") -> E (.ref e) { s with heap := h' }) : wpAny (model prog w) A (Builtin.«zip.__next__» ⟨[.ref z], []⟩) Q E s := by
 show wpAny _ _ (field (.ref z) 2 >>= _) _ _ _; refine wpAny_bind (wpAny_field hz rfl (x := .bool false) rfl ?_)
 show wpAny _ _ (field (.ref z) 3 >>= _) _ _ _; refine wpAny_bind (wpAny_field hz rfl (x := .ref TI) rfl ?_); refine wpAny_bind (wpAny_seqItems hTI rfl ?_)
 show wpAny _ _ (Builtin.SmallTypes.ownedTupleIsFree (.ref z) >>= _) _ _ _; refine wpAny_bind ?_; unfold Builtin.SmallTypes.ownedTupleIsFree
 refine wpAny_bind (wpAny_field hz rfl (x := .none) rfl (wpAny_pure ?_)); simp only [if_true]; refine wpAny_bind (wpAny_rule ?_)
 refine wpAny_bind (wpAny_field hz rfl (x := .ref TO) rfl ?_); refine wpAny_bind (wpAny_setField_rec hz (by simp) fun g1 z1 c1 => ?_)
 replace z1 : IsZip g1 z TI TO .ellipsis := z1
 refine wpAny_bind ?_; simp only [List.zipIdx_cons, List.zipIdx_nil, List.forIn_cons, List.forIn_nil]; refine wpAny_bind (wpAny_bind (wpAny_onRaise ?_))
 show wpAny _ _ (Builtin.SmallTypes.nextOf (.ref i1) >>= _) _ _ _
 cases hx : xs[k1]? with
 | none =>
  refine wpAny_bind (eC hh (h1.extBut c1.extBut D.i1z) (hl1.extBut c1.extBut D.l1z) hx fun g2 e c2 ⟨oe, hoe, hce⟩ => ?_)
  have z2 : IsZip g2 z TI TO .ellipsis := c2 _ _ D.i1z.symm z1
  have ez : e ≠ z := fun q => by subst q; rw [z2] at hoe; cases hoe; simp at hce
  exact wpAny_setField_rec z2 (by simp) fun g3 _ c3 => hE g3 e (fun c o d1 _ d3 _ q => c3.extBut _ _ d1 (c2 _ _ d3 (c1.extBut _ _ d1 q))) ⟨oe, c3.extBut _ _ ez hoe, hce⟩
 | some x =>
  have hy : ys[k2]? = none := hend.resolve_left (by rw [hx]; exact nofun)
  refine wpAny_bind (cv (h1.extBut c1.extBut D.i1z) (hl1.extBut c1.extBut D.l1z) hx fun g2 it2 c2 => wpAny_pure ?_)
  have t2 : IsPair g2 TO a b := c2.extBut _ _ D.TOi1 (c1.extBut _ _ D.TOz hTO)
  refine wpAny_bind (wpAny_seqItems t2 rfl ?_); refine wpAny_bind (wpAny_updateSeq_pair t2 fun g3 t3 c3 => ?_)
  refine wpAny_bind (wpAny_letGo (wpAny_pure ?_)); refine wpAny_bind (wpAny_bind (wpAny_onRaise ?_))
  show wpAny _ _ (Builtin.SmallTypes.nextOf (.ref i2) >>= _) _ _ _; refine wpAny_bind (eC hh (((h2.extBut c1.extBut D.i2z).extBut c2.extBut D.i12.symm).extBut c3.extBut D.TOi2.symm) (((hl2.extBut c1.extBut D.l2z).extBut c2.extBut D.l2i1).extBut c3.extBut D.l2TO) hy fun g4 e c4 ⟨oe, hoe, hce⟩ => ?_)
  have z4 : IsZip g4 z TI TO .ellipsis := c4 _ _ D.i2z.symm (c3.extBut _ _ D.TOz.symm (c2.extBut _ _ D.i1z.symm z1))
  have ez : e ≠ z := fun q => by subst q; rw [z4] at hoe; cases hoe; simp at hce
  exact wpAny_setField_rec z4 (by simp) fun g5 _ c5 => hE g5 e (fun c o d1 d2 d3 d4 q => c5.extBut _ _ d1 (c4 _ _ d4 (c3.extBut _ _ d2 (c2.extBut _ _ d3 (c1.extBut _ _ d1 q))))) ⟨oe, c5.extBut _ _ ez hoe, hce⟩
theorem lA {z TI TO i1 i2 l1 l2 : Addr} {k1 k2 : Nat} {xs ys : Array Value} {x y a b : Value} {Q : Option Value -> Shared -> Prop} (D : ZipApart z TI TO i1 i2 l1 l2) (hz : IsZip s.heap z TI TO .none) (hTI : IsPair s.heap TI (.ref i1) (.ref i2)) (hTO : IsPair s.heap TO a b)
  (h1 : s.heap.IsTupleIter i1 l1 k1) (h2 : s.heap.IsTupleIter i2 l2 k2) (hl1 : s.heap.IsTuple l1 xs) (hl2 : s.heap.IsTuple l2 ys) (hx : xs[k1]? = some x) (hy : ys[k2]? = some y)
  (hQ : ∀ h', IsZip h' z TI TO (rawInt s.heap.objs.size) -> IsPair h' TO x y -> h'.IsTupleIter i1 l1 (k1 + 1) -> h'.IsTupleIter i2 l2 (k2 + 1) -> IsPair h' s.heap.objs.size x y -> (∀ c o, c ≠ z -> c ≠ TO -> c ≠ i1 -> c ≠ i2 -> s.heap.get? c = some o -> h'.get? c = some o) -> Q (some (.ref s.heap.objs.size)) { s with heap := h' }) :
  wpAny (model prog w) A (pyNext (.ref z)) Q E s := by
 have hT : s.TypeIs (.ref z) "zip" := ⟨_, hz, rfl⟩; unfold pyNext
 exact wpAny_bind (wpAny_attempt (wpAny_callSpecial?_slot (name := Str.ofString "__next__") hT F.slot_zip_next (wpAny_call_entry F.slot_zip_next hT F.entry_zip_next (lT D hz hTI hTO h1 h2 hl1 hl2 hx hy fun h' a1 a2 a3 a4 a5 a6 => wpAny_pure (hQ h' a1 a2 a3 a4 a5 a6)) (F.args_zip_next_1 _))))
theorem mK {z TI TO i1 i2 l1 l2 : Addr} {k1 k2 : Nat} {xs ys : Array Value} {a b : Value} {Q : Option Value -> Shared -> Prop} (hh : A.handled = none) (D : ZipApart z TI TO i1 i2 l1 l2) (hz : IsZip s.heap z TI TO .none) (hTI : IsPair s.heap TI (.ref i1) (.ref i2)) (hTO : IsPair s.heap TO a b)
  (h1 : s.heap.IsTupleIter i1 l1 k1) (h2 : s.heap.IsTupleIter i2 l2 k2) (hl1 : s.heap.IsTuple l1 xs) (hl2 : s.heap.IsTuple l2 ys) (hend : xs[k1]? = none \/ ys[k2]? = none)
  (hQ : ∀ h', (∀ c o, c ≠ z -> c ≠ TO -> c ≠ i1 -> c ≠ i2 -> s.heap.get? c = some o -> h'.get? c = some o) -> Q none { s with heap := h' }) : wpAny (model prog w) A (pyNext (.ref z)) Q E s := by
 have hT : s.TypeIs (.ref z) "zip" := ⟨_, hz, rfl⟩; unfold pyNext
 refine wpAny_bind (wpAny_attempt (wpAny_callSpecial?_slot (name := Str.ofString "__next__") hT F.slot_zip_next (wpAny_call_entry F.slot_zip_next hT F.entry_zip_next (oC hh D hz hTI hTO h1 h2 hl1 hl2 hend fun h' e hk ⟨o, ho, hc⟩ => ?_) (F.args_zip_next_1 _))))
 exact wpAny_bind (wpAny_isInstance (T := "StopIteration") (b := true) ⟨o, ho, hc⟩ isSubtype_stop (wpAny_pure (hQ _ hk)))
theorem ky (l1 l2 : Addr) (xs ys : Array Value) (n n' : Nat) (dct dct' : Option Addr) (slt slt' : Array (Option Value)) :
  Meets (Builtin.«zip.__new__» ⟨[.type "zip", .ref l1, .ref l2], []⟩) (fun _ R s => s.heap.get? l1 = some { cls := .type "tuple", dict := dct', data := .seq xs n', slots := slt' } /\ s.heap.get? l2 = some { cls := .type "tuple", dict := dct, data := .seq ys n, slots := slt } /\
   R (.ok (.ret (.ref (jz s.heap l1 l2).objs.size))) { s with heap := gj s.heap l1 l2 }) :=
 .of_wp fun prog w A R s h => by
  obtain ⟨hp, g, d, tk, os⟩ := s; obtain ⟨hl1, hl2, h⟩ := h
  have hsub := sub_zip
  have hL1 : Heap.IsTuple (Shared.heap ⟨hp, g, d, tk, os⟩) l1 xs := ⟨_, hl1, rfl, n', rfl⟩
  have hl2' : (hp.push { cls := .type "tuple_iterator", data := .fields #[.ref l1, .int 0 0] }).get? l2 = some { cls := .type "tuple", dict := dct, data := .seq ys n, slots := slt } := Heap.get?_push_of_some _ hl2
  have hL2 : Heap.IsTuple (Shared.heap ⟨hp.push { cls := .type "tuple_iterator", data := .fields #[.ref l1, .int 0 0] }, g, d, tk, os⟩) l2 ys := ⟨_, hl2', rfl, n, rfl⟩
  wp_walk using wpAny_pyIter_tuple hL1, wpAny_pyIter_tuple hL2, AutoSeq1.wpAny_loadPart' hl1, AutoSeq1.wpAny_loadPart' hl2'
  exact ⟨_, rfl, h⟩
theorem mQ {l1 l2 : Addr} {xs ys : Array Value} {Q : Value -> Shared -> Prop} (hl1 : s.heap.IsTuple l1 xs) (hl2 : s.heap.IsTuple l2 ys)
  (h : ∀ h', IsZip h' (s.heap.objs.size + 4) (s.heap.objs.size + 2) (s.heap.objs.size + 3) .none -> IsPair h' (s.heap.objs.size + 2) (.ref s.heap.objs.size) (.ref (s.heap.objs.size + 1)) -> IsPair h' (s.heap.objs.size + 3) .none .none -> h'.IsTupleIter s.heap.objs.size l1 0 -> h'.IsTupleIter (s.heap.objs.size + 1) l2 0 ->
   (∀ c o, s.heap.get? c = some o -> h'.get? c = some o) -> Q (.ref (s.heap.objs.size + 4)) { s with heap := h' }) : wpAny (model prog w) A (call (.type "zip") [.ref l1, .ref l2]) Q E s := by
 obtain ⟨⟨c, dct, dt, sl⟩, hl, hc, n, hd⟩ := hl2
 replace hc : c = .type "tuple" := hc
 replace hd : dt = .seq ys n := hd
 subst hc hd
 obtain ⟨⟨c', dct', dt', sl'⟩, hl', hc', n', hd'⟩ := hl1
 replace hc' : c' = .type "tuple" := hc'
 replace hd' : dt' = .seq xs n' := hd'
 subst hc' hd'
 refine callType_new F.called_zip (by decide) (F.typeCall_zip_2 _ _) (F.newCall_zip_2 _ _) (fun obj => F.args_object_init_3 obj _ _) F.entry_zip_new (ky l1 l2 xs ys n n' dct dct' sl sl') ⟨hl', hl, ?_⟩
 have y1 : (jd s.heap l1).objs.size = s.heap.objs.size + 1 := Heap.size_push ..
 have y2 : (jF s.heap l1 l2).objs.size = s.heap.objs.size + 2 := by rw [Heap.size_push, y1]
 have y3 : (jK s.heap l1 l2).objs.size = s.heap.objs.size + 3 := by rw [Heap.size_push, y2]
 have y4 : (jz s.heap l1 l2).objs.size = s.heap.objs.size + 4 := by rw [Heap.size_push, y3]
 have up : ∀ {h : Heap} {o : Obj} {c : Addr} {p : Obj}, h.get? c = some p -> (h.push o).get? c = some p := fun q => Heap.get?_push_of_some _ q
 have v5 : (gj s.heap l1 l2).get? (jz s.heap l1 l2).objs.size = some _ := Heap.get?_push_size _ rfl
 have v4 : (gj s.heap l1 l2).get? (jK s.heap l1 l2).objs.size = some _ := up (Heap.get?_push_size _ rfl)
 have v3 : (gj s.heap l1 l2).get? (jF s.heap l1 l2).objs.size = some _ := up (up (Heap.get?_push_size _ rfl))
 have v2 : (gj s.heap l1 l2).get? (jd s.heap l1).objs.size = some _ := up (up (up (Heap.get?_push_size _ rfl)))
 have v1 : (gj s.heap l1 l2).get? s.heap.objs.size = some _ := up (up (up (up (Heap.get?_push_size _ rfl))))
 show _ /\ _
 rw [y2, y3, y4] at v5
 rw [y1, y2] at v3
 rw [y3] at v4
 rw [y1] at v2
 rw [y4]
 exact ⟨⟨_, v5, rfl⟩, h _ v5 v3 v4 ⟨_, v1, rfl, rfl⟩ ⟨_, v2, rfl, rfl⟩ fun c o q => up (up (up (up (up q))))⟩
end
def nQ (K : PySem.W.Frag) (a b : Addr) : It :=
 ⟨fun i H => ∃ xs ys x y, SqT K H a xs /\ SqT K H b ys /\ xs[i]? = some x /\ ys[i]? = some y, fun i H z H' => ∃ p x y, H p = none /\ H' = upd H p (.tup [x, y]) /\ z = .ref p /\ (∀ xs, SqT K H a xs -> xs[i]? = some x) /\ ∀ ys, SqT K H b ys -> ys[i]? = some y,
 fun i H => ∃ xs ys, SqT K H a xs /\ SqT K H b ys /\ (xs.length <= i \/ ys.length <= i)⟩
theorem mq {P : Program} {w : World} {K : PySem.W.Frag} {elts : List Expr} {x1} {tp : Pos} (a b z TI TO i1 i2 : Addr) (D1 : TI ≠ z /\ TO ≠ z /\ i1 ≠ z /\ i2 ≠ z /\ TI ≠ TO /\ TI ≠ i1 /\ TI ≠ i2 /\ TO ≠ i1 /\ TO ≠ i2 /\ i1 ≠ i2) (D2 : a ≠ TO /\ b ≠ TO) :
  jC P w K (.Tuple elts x1 tp) (nQ K a b) [z, TI, TO, i1, i2] z (fun i h => IsZip h z TI TO .none /\ IsPair h TI (.ref i1) (.ref i2) /\ (∃ u v, IsPair h TO u v) /\ h.IsTupleIter i1 a i /\ h.IsTupleIter i2 b i) where
 mem := by simp
 obj := fun i h st c hc => by
  obtain ⟨hz, hTI, ⟨u, v, hTO⟩, ⟨o1, e1, c1, d1⟩, ⟨o2, e2, c2, d2⟩⟩ := st
  simp only [List.mem_cons, List.not_mem_nil, or_false] at hc
  rcases hc with rfl | rfl | rfl | rfl | rfl
  ·exact ⟨_, hz, fun v z => by
    have z' : Data.fields _ = Data.cell v := z
    cases z'⟩
  ·exact ⟨_, hTI, fun v z => by
    have z' : Data.seq _ _ = Data.cell v := z
    cases z'⟩
  ·exact ⟨_, hTO, fun v z => by
    have z' : Data.seq _ _ = Data.cell v := z
    cases z'⟩
  ·exact ⟨o1, e1, fun v z => by rw [d1] at z; cases z⟩
  ·exact ⟨o2, e2, fun v z => by rw [d2] at z; cases z⟩
 keep := fun i h h' st k => by
  obtain ⟨hz, hTI, ⟨u, v, hTO⟩, h1, h2⟩ := st
  exact ⟨k z (by simp) _ hz, k TI (by simp) _ hTI, ⟨u, v, k TO (by simp) _ hTO⟩, h1.at fun o e => k i1 (by simp) o e, h2.at fun o e => k i2 (by simp) o e⟩
 item := by
  intro X hP hw hK hc i pins s σ H E I hf st hg
  subst hP hw hK
  obtain ⟨xs, ys, x, y, hq1, hq2, hx, hy⟩ := hg
  obtain ⟨its1, rv1, p1, _⟩ := I.tuple hq1
  obtain ⟨its2, rv2, p2, _⟩ := I.tuple hq2
  obtain ⟨u1, hu1, ru1⟩ := rv1.get hx
  obtain ⟨u2, hu2, ru2⟩ := rv2.get hy
  obtain ⟨hz, hTI, ⟨u, v, hTO⟩, h1, h2⟩ := st
  obtain ⟨d1, d2, d3, d4, d5, d6, d7, d8, d9, d10⟩ := D1
  have L1 : s.heap.IsTuple a its1.toArray := p1
  have L2 : s.heap.IsTuple b its2.toArray := p2
  have D : ZipApart z TI TO i1 i2 a b := by
   obtain ⟨o1, e1, c1, _⟩ := id L1
   obtain ⟨o2, e2, c2, _⟩ := id L2
   obtain ⟨o3, e3, c3, _⟩ := id h1
   obtain ⟨o4, e4, c4, _⟩ := id h2
   exact ⟨d1, d2, d3, d4, d5, d6, d7, d8, d9, d10, cw e1 hz (by rw [c1]; exact fun z => absurd (Value.type.inj z) (by decide)), D2.1, cw e1 e3 (by rw [c1, c3]; exact fun z => absurd (Value.type.inj z) (by decide)), cw e1 e4 (by rw [c1, c4]; exact fun z => absurd (Value.type.inj z) (by decide)),
    cw e2 hz (by rw [c2]; exact fun z => absurd (Value.type.inj z) (by decide)), D2.2, cw e2 e3 (by rw [c2, c3]; exact fun z => absurd (Value.type.inj z) (by decide)), cw e2 e4 (by rw [c2, c4]; exact fun z => absurd (Value.type.inj z) (by decide))⟩
  refine lA D hz hTI hTO h1 h2 L1 L2 (x := u1) (y := u2) (by simpa using hu1) (by simpa using hu2) fun h3 a1 a2 a3 a4 a5 hk => ?_
  refine ⟨_, rfl, wpAny_letOwnedTupleGo_zip a1 fun h4 hz4 hs4 => ?_⟩
  have hzl : z < s.heap.objs.size := Heap.lt_size hz
  have hn : H s.heap.objs.size = none := I.hok.fresh (Nat.le_refl _)
  have keep : ∀ c o, c ≠ z -> c ≠ TO -> c ≠ i1 -> c ≠ i2 -> s.heap.get? c = some o -> h4.get? c = some o := fun c o c1 c2 c3 c4 q => (hs4.2 c c1).trans (hk c o c1 c2 c3 c4 q)
  have tup : h4.get? s.heap.objs.size = some { cls := .type "tuple", data := .seq #[u1, u2] } := (hs4.2 _ (ngt hzl)).trans a5
  have fpn : ∀ c ∈ [z, TI, TO, i1, i2], H c = none := fun c hc => (hf c hc).1
  have nit : ∀ c v, H c = some v -> c ≠ z /\ c ≠ TO /\ c ≠ i1 /\ c ≠ i2 := fun c v q => ⟨(fun e => by rw [e, fpn z (by simp)] at q; cases q), (fun e => by rw [e, fpn TO (by simp)] at q; cases q), (fun e => by rw [e, fpn i1 (by simp)] at q; cases q), (fun e => by rw [e, fpn i2 (by simp)] at q; cases q)⟩
  have kch : ∀ c o, c ∉ [z, TO, i1, i2] -> s.heap.get? c = some o -> h4.get? c = some o := fun c o hc q => keep c o (fun e => hc (by simp [e])) (fun e => hc (by simp [e])) (fun e => hc (by simp [e])) (fun e => hc (by simp [e])) q
  have I2 : Inv X pins σ (upd H s.heap.objs.size (.tup [x, y])) { s with heap := h4, toks := s.toks } := by
   refine I.step (g' := s.gens) (d' := s.drawn) (ch := [z, TO, i1, i2]) (fun c hc => ?_) (fun c o _ _ hc' q _ => kch c o hc' q) (fun c o _ _ hc' q _ => ⟨o.slots, kch c o hc' q⟩) (fun c o _ q n => by rw [au (nlt (Heap.lt_size q))]; exact n) (fun c o hc' q => ⟨o, kch c o hc' q⟩)
    (fun c xs q => by rw [au (ap q hn)]; exact q) (fun c o v q => by rw [au (ap q hn)]; exact q) (fun c ps q => ⟨#[], by rw [au (ap q hn), q]; simp⟩) (fun m hm => ?_) (fun c v q => ?_) I.bare
   ·have hc' : c ∈ [z, TI, TO, i1, i2] := by
     simp only [List.mem_cons, List.not_mem_nil, or_false] at hc ⊢
     rcases hc with e | e | e | e <;> simp [e]
    obtain ⟨f0, f1, f2, f3, f4, f5⟩ := hf c hc'
    exact ⟨f3, f1, f4, f5⟩
   ·obtain ⟨o, es, ep, ho, r⟩ := hm
    exact ⟨o, es, ep, keep _ o (Ne.symm (hf z (by simp)).2.1) (Ne.symm (hf TO (by simp)).2.1) (Ne.symm (hf i1 (by simp)).2.1) (Ne.symm (hf i2 (by simp)).2.1) ho, r⟩
   ·by_cases hb : c = s.heap.objs.size
    ·subst hb
     rw [ad] at q
     cases q
     exact ⟨(show 2 <= sizeLine by rw [sizeLine_eq]; decide), [u1, u2], .cons ru1 (.cons ru2 .nil), ⟨_, tup, rfl, 0, rfl⟩, _, tup, rfl⟩
    ·rw [au hb] at q
     refine (I.hok c v q).stay (fun c' w' hc' q' => ?_) (fun c' q' => by rw [au (ap q' hn)]; exact q') fun c' xs q' => by rw [au (ap q' hn)]; exact q'
     rcases hc' with e | e
     ·subst e; obtain ⟨n1, n2, n3, n4⟩ := nit c' v q; exact keep c' w' n1 n2 n3 n4 q'
     ·obtain ⟨n1, n2, n3, n4⟩ := nit c' _ e; exact keep c' w' n1 n2 n3 n4 q'
  refine ⟨.ref s.heap.objs.size, _, I2, rfl, ⟨_, x, y, hn, rfl, rfl, fun xs' h' => by rw [I.tuple_inj h' hq1]; exact hx, fun ys' h' => by rw [I.tuple_inj h' hq2]; exact hy⟩, ?_, fun c hc => ?_⟩
  ·exact ⟨hz4, hs4.extBut _ _ d1 (hk TI _ d1 d5 d6 d7 hTI), ⟨_, _, hs4.extBut _ _ d2 a2⟩, a3.at fun o e => hs4.extBut _ _ d3 e, a4.at fun o e => hs4.extBut _ _ d4 e⟩
  ·have hb' : c < s.heap.objs.size := by
    simp only [List.mem_cons, List.not_mem_nil, or_false] at hc
    obtain ⟨o3, e3, _⟩ := h1
    obtain ⟨o4, e4, _⟩ := h2
    rcases hc with e | e | e | e | e
    ·rw [e]; exact hzl
    ·rw [e]; exact Heap.lt_size hTI
    ·rw [e]; exact Heap.lt_size hTO
    ·rw [e]; exact Heap.lt_size e3
    ·rw [e]; exact Heap.lt_size e4
   rw [au (nlt hb')]
   exact fpn c hc
 done := by
  intro X hP hw hK hc i pins s σ H E I hf st hg
  subst hP hw hK
  obtain ⟨xs, ys, hq1, hq2, hend⟩ := hg
  obtain ⟨its1, rv1, p1, _⟩ := I.tuple hq1
  obtain ⟨its2, rv2, p2, _⟩ := I.tuple hq2
  obtain ⟨hz, hTI, ⟨u, v, hTO⟩, h1, h2⟩ := st
  obtain ⟨d1, d2, d3, d4, d5, d6, d7, d8, d9, d10⟩ := D1
  have L1 : s.heap.IsTuple a its1.toArray := p1
  have L2 : s.heap.IsTuple b its2.toArray := p2
  have D : ZipApart z TI TO i1 i2 a b := by
   obtain ⟨o1, e1, c1, _⟩ := id L1
   obtain ⟨o2, e2, c2, _⟩ := id L2
   obtain ⟨o3, e3, c3, _⟩ := id h1
   obtain ⟨o4, e4, c4, _⟩ := id h2
   exact ⟨d1, d2, d3, d4, d5, d6, d7, d8, d9, d10, cw e1 hz (by rw [c1]; exact fun z => absurd (Value.type.inj z) (by decide)), D2.1, cw e1 e3 (by rw [c1, c3]; exact fun z => absurd (Value.type.inj z) (by decide)), cw e1 e4 (by rw [c1, c4]; exact fun z => absurd (Value.type.inj z) (by decide)),
    cw e2 hz (by rw [c2]; exact fun z => absurd (Value.type.inj z) (by decide)), D2.2, cw e2 e3 (by rw [c2, c3]; exact fun z => absurd (Value.type.inj z) (by decide)), cw e2 e4 (by rw [c2, c4]; exact fun z => absurd (Value.type.inj z) (by decide))⟩
  have l1 := rv1.length
  have l2 := rv2.length
  have fpn : ∀ c ∈ [z, TI, TO, i1, i2], H c = none := fun c hc => (hf c hc).1
  refine mK (I.ok.hd hc) D hz hTI hTO h1 h2 L1 L2 (hend.imp (fun h => by simp; omega) fun h => by simp; omega) fun h4 hk => ⟨rfl, ?_⟩
  have nit : ∀ c v, H c = some v -> c ≠ z /\ c ≠ TO /\ c ≠ i1 /\ c ≠ i2 := fun c v q => ⟨(fun e => by rw [e, fpn z (by simp)] at q; cases q), (fun e => by rw [e, fpn TO (by simp)] at q; cases q), (fun e => by rw [e, fpn i1 (by simp)] at q; cases q), (fun e => by rw [e, fpn i2 (by simp)] at q; cases q)⟩
  have kch : ∀ c o, c ∉ [z, TO, i1, i2] -> s.heap.get? c = some o -> h4.get? c = some o := fun c o hc q => hk c o (fun e => hc (by simp [e])) (fun e => hc (by simp [e])) (fun e => hc (by simp [e])) (fun e => hc (by simp [e])) q
  refine I.step (t' := s.toks) (g' := s.gens) (d' := s.drawn) (ch := [z, TO, i1, i2]) (fun c hc => ?_) (fun c o _ _ hc' q _ => kch c o hc' q) (fun c o _ _ hc' q _ => ⟨o.slots, kch c o hc' q⟩) (fun c o _ q n => n) (fun c o hc' q => ⟨o, kch c o hc' q⟩)
   (fun c xs q => q) (fun c o v q => q) (fun c ps q => ⟨#[], by rw [q]; simp⟩) (fun m hm => ?_) (fun c v q => ?_) I.bare
  ·have hc' : c ∈ [z, TI, TO, i1, i2] := by
    simp only [List.mem_cons, List.not_mem_nil, or_false] at hc ⊢
    rcases hc with e | e | e | e <;> simp [e]
   obtain ⟨f0, f1, f2, f3, f4, f5⟩ := hf c hc'
   exact ⟨f3, f1, f4, f5⟩
  ·obtain ⟨o, es, ep, ho, r⟩ := hm
   exact ⟨o, es, ep, hk _ o (Ne.symm (hf z (by simp)).2.1) (Ne.symm (hf TO (by simp)).2.1) (Ne.symm (hf i1 (by simp)).2.1) (Ne.symm (hf i2 (by simp)).2.1) ho, r⟩
  ·refine (I.hok c v q).stay (fun c' w' hc' q' => ?_) (fun c' q' => q') fun c' xs q' => q'
   rcases hc' with e | e
   ·subst e; obtain ⟨n1, n2, n3, n4⟩ := nit c' v q; exact hk c' w' n1 n2 n3 n4 q'
   ·obtain ⟨n1, n2, n3, n4⟩ := nit c' _ e; exact hk c' w' n1 n2 n3 n4 q'
 self := fun A i s Q E st h => wpAny_pyIter_zip st.1 h
theorem qj {h : Heap} {a : Addr} {its : Array Value} (p : IsTup h a its) : a < h.objs.size := by
 obtain ⟨o, e, _⟩ := p
 exact Heap.lt_size e
section
variable {X : Cx}
def ua (K : PySem.W.Frag) (ta : TA) : TI := fun σ H R => ta σ H fun vs H1 => ∃ a b, vs = [.ref a, .ref b] /\ (∃ xs, SqT K H1 a xs) /\ (∃ ys, SqT K H1 b ys) /\ R (nQ K a b) H1
theorem pD {a b : Expr} {ta : TA} {p pos : Pos} {elts : List Expr} {x1} {tp : Pos} (hg : Gl X "zip") (hm : X.mg "zip" = none) (ha : PA X [a, b] ta) (hs : starEach [a, b] X.env = (false, eval a X.env) :: starEach [b] X.env := by rfl) (hpl : (backTo pos (starEach [b] X.env)).any (·.1) = false := by rfl) :
  PI X (.Tuple elts x1 tp) (.Call (.Name "zip" p) [a, b] [] pos) (ua X.K ta) := by
 intro pins s σ H R I h
 refine Call_ (eB I hg hm (u := .type "zip") (by decide +kernel) (PyProof.Rows.callWith_type1 (thn (ha pos pins s σ H _ I h) fun us s1 ⟨vs, H1, I1, r1, q1⟩ => ?_) hs hpl))
 obtain ⟨l, m, e, ⟨xs, hq1⟩, ⟨ys, hq2⟩, q⟩ := q1
 subst e
 obtain ⟨u, w', rfl, ru, rw'⟩ := tJ r1
 cases ru
 cases rw'
 obtain ⟨its1, rv1, p1, _⟩ := I1.tuple hq1
 obtain ⟨its2, rv2, p2, _⟩ := I1.tuple hq2
 refine mQ p1 p2 fun h' hz hTI hTO hi1 hi2 kp => ?_
 have I2 : Inv X pins σ H1 { s1 with heap := h' } := I1.kept (t' := s1.toks) kp
 have add : ∀ (n i j : Nat), i ≠ j -> n + i ≠ n + j := fun n i j h z => h (Nat.add_left_cancel z)
 have T : jC X.prog X.w X.K (.Tuple elts x1 tp) (nQ X.K l m) [s1.heap.objs.size + 4, s1.heap.objs.size + 2, s1.heap.objs.size + 3, s1.heap.objs.size, s1.heap.objs.size + 1] (s1.heap.objs.size + 4) _ :=
  mq l m (s1.heap.objs.size + 4) (s1.heap.objs.size + 2) (s1.heap.objs.size + 3) s1.heap.objs.size (s1.heap.objs.size + 1)
   ⟨add _ 2 4 (by decide), add _ 3 4 (by decide), add _ 0 4 (by decide), add _ 1 4 (by decide), add _ 2 3 (by decide), add _ 2 0 (by decide), add _ 2 1 (by decide), add _ 3 0 (by decide), add _ 3 1 (by decide), add _ 0 1 (by decide)⟩ ⟨Nat.ne_of_lt (Nat.lt_add_right 3 (qj p1)), Nat.ne_of_lt (Nat.lt_add_right 3 (qj p2))⟩
 refine T.self X.A 0 { s1 with heap := h' } _ _ ⟨hz, hTI, ⟨_, _, hTO⟩, hi1, hi2⟩ ?_
 refine ⟨s1.heap.objs.size + 4, _, _, _, H1, rfl, I2, T, ⟨hz, hTI, ⟨_, _, hTO⟩, hi1, hi2⟩, fun b hb => ?_, q⟩
 have hb' : s1.heap.objs.size <= b := by
  simp only [List.mem_cons, List.not_mem_nil, or_false] at hb
  rcases hb with e | e | e | e | e
  ·rw [e]; exact Nat.le_add_right _ _
  ·rw [e]; exact Nat.le_add_right _ _
  ·rw [e]; exact Nat.le_add_right _ _
  ·rw [e]; exact Nat.le_refl _
  ·rw [e]; exact Nat.le_add_right _ _
 obtain ⟨f0, f1⟩ := I1.fpOk hb' (I1.hok.fresh hb')
 exact ⟨f0, f1⟩
theorem pV {k : Nat} {ix : List Nat} {g : TG} {tt : TT} {te : TE} {σ : St} {H1 : Hp} {Q : List V -> Hp -> Prop} {K : PySem.W.Frag} {a b : Addr} {xs ys : List V} (Pv : Nat -> List V -> Hp -> Prop) (h0 : Pv 0 [] H1) (hl : ∀ i zs H, Pv i zs H -> SqT K H a xs /\ SqT K H b ys)
  (hs : ∀ i zs H x y p, xs[i]? = some x -> ys[i]? = some y -> Pv i zs H -> H p = none -> dX k ix g tt te σ (.ref p) zs (upd H p (.tup [x, y])) (Pv (i + 1))) (hd : ∀ zs H, Pv (min xs.length ys.length) zs H -> Q zs H) : rLC (nQ K a b) k ix g tt te σ H1 Q := by
 refine oh (n := min xs.length ys.length) Pv h0 (fun i zs H h p => ?_) (fun zs H p => ?_) (fun i zs H x H' h p y => ?_) hd
 ·obtain ⟨q1, q2⟩ := hl i zs H p
  exact ⟨xs, ys, xs[i]'(by omega), ys[i]'(by omega), q1, q2, by simp, by simp⟩
 ·obtain ⟨q1, q2⟩ := hl _ zs H p
  exact ⟨xs, ys, q1, q2, by omega⟩
 ·obtain ⟨q1, q2⟩ := hl i zs H p
  obtain ⟨c, x', y', hb, e1, e2, hx, hy⟩ := y
  subst e1 e2
  exact hs i zs H x' y' c (hx xs q1) (hy ys q2) p hb
end
section
variable {X : Cx}
def vT : R2 := fun x y H Q => ∃ (n : Nat) (ds : List Dv), (∀ d ∈ ds, Pl n d) /\ n <= 140 /\ Rep H (.lst ds) x /\ Rep H (.lst ds) y /\ Q (.bl false) H
theorem rG (hu : X.A.units + 150 < cLine) : OpR X (compareOp .NotEq) vT := by
 intro pins s σ H x y v u Q I rx ry h
 obtain ⟨n, ds, hd, hn, r1, r2, q⟩ := h
 simp only [Rep] at r1 r2
 obtain ⟨l, vs, rfl, h1, rs1⟩ := r1
 obtain ⟨b', ws, rfl, h2, rs2⟩ := r2
 cases rx
 cases ry
 obtain ⟨its, rv1, p1, _⟩ := I.list (SqL.of h1)
 obtain ⟨its2, rv2, p2, _⟩ := I.list (SqL.of h2)
 have hu' : X.A.in1.units + n < cLine := by show X.A.units + 1 + n < cLine; omega
 obtain ⟨z1, z2, w⟩ := dN I (A := X.A.in1) (n := n) (fun d hd1 e he v w a b r1 r2 q1 q2 => kj I (hd d hd1) (hd e he) hu' r1 r2 q1 q2) rs1 rs2 rv1 rv2
 refine SeqAt.RcNeAt.lists (e := fun j => eD (ds[j]? = ds[j]?)) p1.isList p2.isList (by omega) (by omega) w X.prog X.w X.xe _ ?_
 have e : (!((List.range its.toArray.size).all fun j => eD (ds[j]? = ds[j]?))) = false := by
  rw [Bool.not_eq_false', List.all_eq_true]
  exact fun j _ => cK.mpr rfl
 rw [e]
 exact ⟨.bl false, H, I, rfl, q⟩
end
section
variable {prog : Program} {w : World} {A : Around} {E : Value -> Shared -> Prop} {s : Shared}
end
section
variable {X : Cx}
end
section
variable {X : Cx}
end
section
variable {X : Cx}
end
section
variable {prog : Program} {w : World} {A : Around} {E : Value -> Shared -> Prop}
end
section
variable {X : Cx} {pos : Pos}
end
end L2
namespace KB
open PySem L2
abbrev Pr := Str × Int
def tm : List Pr -> Str -> Int
 | [], _ => 0
 | p :: ps, x => if p.1 = x then p.2 else tm ps x
def ci (kvs : List Pr) (x : Str) (n : Int) : List Pr := if (kvs.any fun p => decide (p.1 = x)) = true then kvs.map (fun p => if p.1 = x then (p.1, n) else p) else kvs ++ [(x, n)]
theorem oz {ps : List Pr} (h : ∀ p ∈ ps, 0 <= p.2) (x : Str) : 0 <= tm ps x := by
 induction ps with
 | nil => exact Int.le_refl 0
 | cons p ps ih =>
  show 0 <= if p.1 = x then p.2 else tm ps x
  split
  ·exact h p List.mem_cons_self
  ·exact ih fun q hq => h q (List.mem_cons_of_mem _ hq)
def W (num : Str -> Int) : List Pr -> Int
 | [] => 0
 | p :: ps => p.2 * num p.1 + W num ps
theorem tz (num : Str -> Int) (ps : List Pr) : (ps.map fun p => p.2 * num p.1).sum = W num ps := by
 induction ps with
 | nil => rfl
 | cons p ps ih => rw [List.map_cons, List.sum_cons, ih]; rfl
theorem jM {num : Str -> Int} {B : Int} (hB : 0 <= B) (h0 : ∀ x, 0 <= num x /\ num x <= 60) : ∀ {ps : List Pr}, (∀ p ∈ ps, 0 <= p.2 /\ p.2 <= B) -> 0 <= W num ps /\ W num ps <= ps.length * (B * 60)
 | [], _ => ⟨Int.le_refl 0, by show (0 : Int) <= 0 * (B * 60); omega⟩
 | p :: ps, h => by
  obtain ⟨i0, i1⟩ := jM hB h0 fun q hq => h q (List.mem_cons_of_mem _ hq)
  obtain ⟨p0, p1⟩ := h p List.mem_cons_self
  obtain ⟨n0, n1⟩ := h0 p.1
  have m0 : 0 <= p.2 * num p.1 := Int.mul_nonneg p0 n0
  have m1 : p.2 * num p.1 <= B * 60 := Int.mul_le_mul p1 n1 n0 hB
  refine ⟨by show 0 <= p.2 * num p.1 + W num ps; omega, ?_⟩
  show p.2 * num p.1 + W num ps <= ((ps.length + 1 : Nat) : Int) * (B * 60)
  rw [Int.natCast_add, Int.add_mul]
  omega
theorem Rep.tup_inv {H : Hp} {ds : List Dv} {v : V} (h : Rep H (.tup ds) v) : ∃ a vs, v = .ref a /\ H a = some (.tup vs) /\ Reps H ds vs := by simpa only [Rep] using h
theorem Reps.two {H : Hp} {d e : Dv} {vs : List V} (h : Reps H [d, e] vs) : ∃ x y, vs = [x, y] /\ Rep H d x /\ Rep H e y := by
 simp only [Reps] at h
 obtain ⟨x, r, rfl, h1, y, r2, rfl, h2, rfl⟩ := h
 exact ⟨x, y, rfl, h1, h2⟩
def dk (kvs : List (Str × Int)) : List (Key × V) := kvs.map fun p => (Sum.inr p.1, V.int p.2)
def dE (c : Int) (ps : List (Str × Int)) : Dv := .tup [.int c, .tup (ps.map fun p => .tup [.str p.1, .int p.2])]
def tkV (r : TK) : Str × Int := (r.2.1, match r.2.2 with | [.int n] => n | _ => 0)
theorem iH {H : Hp} : ∀ {rs : List TK}, (∀ r ∈ rs, H r.1 = some (.tup [.str (tkV r).1, .int (tkV r).2])) -> Reps H ((rs.map tkV).map fun p => Dv.tup [.str p.1, .int p.2]) (rs.map fun r => V.ref r.1)
 | [], _ => by simp [Reps]
 | r :: rs, h => by
  simp only [List.map_cons, Reps]
  refine ⟨_, _, rfl, ?_, iH fun x hx => h x (List.mem_cons_of_mem _ hx)⟩
  simp only [Rep, Reps]
  exact ⟨r.1, _, rfl, h r List.mem_cons_self, _, _, rfl, rfl, _, _, rfl, rfl, rfl⟩
theorem nz {a b : Str} : ((Sum.inr a : Key) = Sum.inr b) ↔ a = b := ⟨fun h => by injection h, fun h => by rw [h]⟩
theorem ff (kvs : List (Str × Int)) (x : Str) (n : Int) : dk (ci kvs x n) = cx (dk kvs) (Sum.inr x) (.int n) := by
 unfold ci cx dk
 have e : ((kvs.map fun p => ((Sum.inr p.1 : Key), V.int p.2)).any fun kv => decide (kv.1 = Sum.inr x)) = kvs.any fun p => decide (p.1 = x) := by
  rw [List.any_map]
  congr 1
  funext p
  simp [Function.comp]
 rw [e]
 split
 ·rw [List.map_map, List.map_map]
  refine List.map_congr_left fun p _ => ?_
  simp only [Function.comp]
  by_cases h : p.1 = x
  ·rw [if_pos h, if_pos (nz.mpr h)]
  ·rw [if_neg h, if_neg (fun z => h (nz.mp z))]
 ·rw [List.map_append]
  rfl
theorem pB {kvs : List (Str × Int)} {x : Str} {n : Int} (nd : (kvs.map (·.1)).Nodup) : ((ci kvs x n).map (·.1)).Nodup := by
 unfold ci
 split
 ·have e : (kvs.map (fun p => if p.1 = x then (p.1, n) else p)).map (·.1) = kvs.map (·.1) := by
   rw [List.map_map]
   refine List.map_congr_left fun p _ => ?_
   simp only [Function.comp]
   split <;> rfl
  rw [e]; exact nd
 ·rename_i h
  rw [List.map_append, List.nodup_append]
  refine ⟨nd, by simp, fun a ha b hb => ?_⟩
  have hb' : b = x := by simpa using hb
  subst hb'
  intro e
  subst e
  obtain ⟨p, hp, e⟩ := List.mem_map.mp ha
  exact h (List.any_eq_true.mpr ⟨p, hp, decide_eq_true e⟩)
theorem rq (kvs : List (Str × Int)) (x : Str) (n : Int) : (ci kvs x n).length <= kvs.length + 1 := by
 unfold ci
 split
 ·rw [List.length_map]; omega
 ·rw [List.length_append]; simp
theorem qA {R : Str × Int -> Prop} {kvs : List (Str × Int)} {x : Str} {n : Int} (h : ∀ p ∈ kvs, R p) (hx : R (x, n)) : ∀ p ∈ ci kvs x n, R p := by
 intro p hp
 unfold ci at hp
 split at hp
 ·obtain ⟨q, hq, e⟩ := List.mem_map.mp hp
  by_cases z : q.1 = x
  ·rw [if_pos z] at e
   rw [<- e, z]; exact hx
  ·rw [if_neg z] at e
   rw [<- e]; exact h q hq
 ·rcases List.mem_append.mp hp with hp | hp
  ·exact h p hp
  ·rw [List.mem_singleton.mp hp]; exact hx
abbrev aJ (ps : List Pr) : List Dv := ps.map fun p => .tup [.str p.1, .int p.2]
theorem fH {H : Hp} {ps : List Pr} {us : List V} (ru : Reps H (aJ ps) us) {i : Nat} {x : V} (hx : us[i]? = some x) : ∃ p b, ps[i]? = some p /\ x = .ref b /\ H b = some (.tup [.str p.1, .int p.2]) := by
 obtain ⟨d, hd, Rd⟩ := ru.get hx
 rw [List.getElem?_map] at hd
 cases e : ps[i]? with
 | none => rw [e] at hd; cases hd
 | some p =>
  rw [e] at hd
  obtain rfl : Dv.tup [.str p.1, .int p.2] = d := Option.some.inj hd
  obtain ⟨b, zs, rfl, hb, rz⟩ := Rep.tup_inv Rd
  obtain ⟨y, z, rfl, Ry, Rz⟩ := Reps.two rz
  simp only [Rep] at Ry Rz
  subst Ry Rz
  exact ⟨p, b, rfl, rfl, hb⟩
theorem ji {H : Hp} {c : Int} {ps : List Pr} {v : V} (R : Rep H (dE c ps) v) : ∃ a b us, v = .ref a /\ H a = some (.tup [.int c, .ref b]) /\ H b = some (.tup us) /\ Reps H (aJ ps) us /\ us.length = ps.length := by
 obtain ⟨a, tv, rfl, ha, rt⟩ := Rep.tup_inv R
 obtain ⟨x, y, rfl, R0, R1⟩ := Reps.two rt
 simp only [Rep] at R0
 subst R0
 obtain ⟨b, us, rfl, hb, ru⟩ := Rep.tup_inv R1
 have := ru.length
 rw [List.length_map] at this
 exact ⟨a, b, us, rfl, ha, hb, ru, this⟩
theorem jX {H : Hp} {c : Int} {ps : List Pr} {a b : Addr} {us : List V} (ha : H a = some (.tup [.int c, .ref b])) (hb : H b = some (.tup us)) (ru : Reps H (aJ ps) us) : Rep H (dE c ps) (.ref a) := by
 simp only [dE, Rep, Reps]
 exact ⟨a, _, rfl, ha, _, _, rfl, rfl, _, _, rfl, ⟨b, us, rfl, hb, ru⟩, rfl⟩
theorem nu : ∀ (kvs : List Pr) (x : Str), (df (dk kvs) (Sum.inr x)).getD (.int 0) = V.int (tm kvs x)
 | [], x => rfl
 | p :: r, x => by
  by_cases h : p.1 = x
  ·have e1 : df (dk (p :: r)) (Sum.inr x) = some (.int p.2) := bJ (p := (Sum.inr p.1, V.int p.2)) (by rw [h])
   rw [e1]
   show V.int p.2 = V.int (if p.1 = x then p.2 else tm r x)
   rw [if_pos h]
  ·have e1 : df (dk (p :: r)) (Sum.inr x) = df (dk r) (Sum.inr x) := bE (p := (Sum.inr p.1, V.int p.2)) (fun z => h (by injection z))
   rw [e1, nu r x]
   show _ = V.int (if p.1 = x then p.2 else tm r x)
   rw [if_neg h]
theorem eqI {i j : Int} (h : decide (V.int i = V.int j) = true) : i = j := by
 have := of_decide_eq_true h
 injection this
theorem z2 : 2 <= sizeLine := by rw [sizeLine_eq]; decide
theorem z1 : 1 <= sizeLine := by rw [sizeLine_eq]; decide
theorem z3 : 3 <= sizeLine := by rw [sizeLine_eq]; decide
section
variable {K : PySem.W.Frag}
end
theorem tnx {D : fF} {σ : St} {H : Hp} (h : D.nx σ H) : tq D σ H := h
def bA (a : Addr) (H H' : Hp) : Prop := ∀ g o, g ≠ a -> H g = some o -> H' g = some o
theorem bA.trans {a : Addr} {H H1 H2 : Hp} (s : bA a H H1) (t : bA a H1 H2) : bA a H H2 := fun g o hg e => t g o hg (s g o hg e)
theorem az.b {H H' : Hp} (a : Addr) (s : az H H') : bA a H H' := fun g o _ e => s g o e
theorem bA.upd (H : Hp) (a : Addr) (o : HO) : bA a H (upd H a o) := fun g u hg e => by rw [au hg]; exact e
def cO (H H' : Hp) : Prop := ∀ b zs, H b = some (.tup zs) -> H' b = some (.tup zs)
theorem az.tups {H H' : Hp} (s : az H H') : cO H H' := fun b zs e => s b _ e
theorem cO.trans {H H1 H2 : Hp} (s : cO H H1) (t : cO H1 H2) : cO H H2 := fun b zs e => t b zs (s b zs e)
theorem bA.tups {a : Addr} {H H' : Hp} {xs : List V} (s : bA a H H') (h : H a = some (.lst xs)) : cO H H' := fun b zs e => s b _ (fun z => by rw [z, h] at e; cases e) e
theorem cj {H H' : Hp} : ∀ {ds : List Dv} {vs : List V}, (∀ d ∈ ds, ∀ v, Rep H d v -> Rep H' d v) -> Reps H ds vs -> Reps H' ds vs
 | [], vs, _, h => by simpa only [Reps] using h
 | d :: ds, vs, f, h => by
  simp only [Reps] at h ⊢
  obtain ⟨v, r, rfl, h1, h2⟩ := h
  exact ⟨v, r, rfl, f d List.mem_cons_self v h1, cj (fun e he => f e (List.mem_cons_of_mem _ he)) h2⟩
theorem bI {H H' : Hp} (t : cO H H') {n : Nat} {d : Dv} (h : L2.Pl n d) : ∀ {v : V}, Rep H d v -> Rep H' d v := by
 induction h with
 | int => intro v r; simpa only [Rep] using r
 | str => intro v r; simpa only [Rep] using r
 | non => intro v r; simpa only [Rep] using r
 | tup _ ih =>
  intro v r
  simp only [Rep] at r ⊢
  obtain ⟨a, vs, rfl, ha, rs⟩ := r
  exact ⟨a, vs, rfl, t _ _ ha, cj (fun d hd v r => ih d hd r) rs⟩
theorem pP (c : Int) (ps : List Pr) : L2.Pl 3 (dE c ps) := .tup fun d hd => by
 rcases List.mem_cons.mp hd with rfl | hd
 ·exact .int
 ·rw [List.mem_singleton.mp hd]
  refine .tup fun e he => ?_
  obtain ⟨p, _, rfl⟩ := List.mem_map.mp he
  refine .tup fun g hg => ?_
  rcases List.mem_cons.mp hg with rfl | hg
  ·exact .str
  ·rw [List.mem_singleton.mp hg]; exact .int
theorem ki {c : TT} {tb : TS} {D : fF} {σ : St} {H : Hp} (Pv : Nat -> St -> Hp -> Prop) (m : Nat) (h0 : Pv m σ H)
  (hs : ∀ m σ H, Pv m σ H -> c σ H fun b H1 => if b = true then tb { D with nx := fun σ' H' => ∃ m', m' < m /\ Pv m' σ' H', ct := fun σ' H' => ∃ m', m' < m /\ Pv m' σ' H', bk := D.nx } σ H1 else D.nx σ H1)
  (mono : ∀ σ H Q Q', (∀ b H1, Q b H1 -> Q' b H1) -> c σ H Q -> c σ H Q') : qi c tb D σ H := by
 refine ⟨Pv, ⟨m, h0⟩, fun m σ H p => mono σ H _ _ (fun b H1 q => ?_) (hs m σ H p)⟩
 cases b with
 | true => exact ⟨_, fun σ' H' q' => q', q⟩
 | false => exact q
theorem mS {K : PySem.W.Frag} {i : Nat} : ∀ σ H (Q Q' : Bool -> Hp -> Prop), (∀ b H1, Q b H1 -> Q' b H1) -> (fun (σ : St) (H : Hp) (Q : Bool -> Hp -> Prop) => rS i σ H fun x H' => ∃ k, rO K x H' k /\ Q k H') σ H Q -> (fun (σ : St) (H : Hp) (Q : Bool -> Hp -> Prop) => rS i σ H fun x H' => ∃ k, rO K x H' k /\ Q k H') σ H Q' := by
 rintro σ H Q Q' h ⟨v, e, k, t, q⟩
 exact ⟨v, e, k, t, h _ _ q⟩
inductive Kd where
 | whole
 | place (c : Int) (ps : List Pr)
 | row (c : Int) (ps : List Pr) (k : Kd)
 | pair (k j : Kd)
def Kd.dv : Kd -> Dv
 | .whole => .tup [.str "whole"]
 | .place c ps => .tup [.str "place", dE c ps]
 | .row c ps k => .tup [.str "row", dE c ps, k.dv]
 | .pair k j => .tup [.str "pair", k.dv, j.dv]
def Kd.size : Kd -> Nat
 | .whole => 1
 | .place _ _ => 1
 | .row _ _ k => k.size + 1
 | .pair k j => k.size + j.size + 1
theorem Kd.size_pos : ∀ k : Kd, 1 <= k.size
 | .whole => Nat.le_refl _
 | .place _ _ => Nat.le_refl _
 | .row _ _ k => by show 1 <= k.size + 1; omega
 | .pair k j => by show 1 <= k.size + j.size + 1; omega
theorem Kd.pl : ∀ k : Kd, L2.Pl (k.size + 3) k.dv
 | .whole => .tup fun d hd => by rw [List.mem_singleton.mp hd]; exact .str
 | .place c ps => .tup fun d hd => by
  rcases List.mem_cons.mp hd with rfl | hd
  ·exact .str
  ·rw [List.mem_singleton.mp hd]; exact pP c ps
 | .row c ps k => .tup fun d hd => by
  rcases List.mem_cons.mp hd with rfl | hd
  ·exact .str
  rcases List.mem_cons.mp hd with rfl | hd
  ·exact (pP c ps).up (by show 3 <= k.size + 3; omega)
  ·rw [List.mem_singleton.mp hd]; exact k.pl
 | .pair k j => .tup fun d hd => by
  rcases List.mem_cons.mp hd with rfl | hd
  ·exact .str
  rcases List.mem_cons.mp hd with rfl | hd
  ·exact k.pl.up (by show k.size + 3 <= k.size + j.size + 3; omega)
  ·rw [List.mem_singleton.mp hd]; exact j.pl.up (by show j.size + 3 <= k.size + j.size + 3; omega)
def Kd.word : Kd -> Str
 | .whole => "whole"
 | .place _ _ => "place"
 | .row _ _ _ => "row"
 | .pair _ _ => "pair"
theorem Kd.tupS {H H' : Hp} (t : cO H H') {k : Kd} {v : V} (r : Rep H k.dv v) : Rep H' k.dv v := bI t k.pl r
theorem Kd.inv {H : Hp} {k : Kd} {v : V} (r : Rep H k.dv v) : ∃ a vs, v = .ref a /\ H a = some (.tup (.str k.word :: vs)) /\
  (match k with
   | .whole => vs = []
   | .place c ps => ∃ l, vs = [l] /\ Rep H (dE c ps) l
   | .row c ps j => ∃ l u, vs = [l, u] /\ Rep H (dE c ps) l /\ Rep H j.dv u
   | .pair i j => ∃ u w, vs = [u, w] /\ Rep H i.dv u /\ Rep H j.dv w) := by
 cases k with
 | whole =>
  simp only [Kd.dv, Rep, Reps] at r
  obtain ⟨a, vs, rfl, ha, x, r1, rfl, rfl, rfl⟩ := r
  exact ⟨a, [], rfl, ha, rfl⟩
 | place c ps =>
  rw [Kd.dv, Rep] at r
  obtain ⟨a, vs, rfl, ha, rs⟩ := r
  simp only [Reps] at rs
  obtain ⟨x, r1, rfl, hx, y, r2, rfl, hy, rfl⟩ := rs
  simp only [Rep] at hx
  subst hx
  exact ⟨a, _, rfl, ha, y, rfl, hy⟩
 | row c ps j =>
  rw [Kd.dv, Rep] at r
  obtain ⟨a, vs, rfl, ha, rs⟩ := r
  simp only [Reps] at rs
  obtain ⟨x, r1, rfl, hx, y, r2, rfl, hy, z, r3, rfl, hz, rfl⟩ := rs
  simp only [Rep] at hx
  subst hx
  exact ⟨a, _, rfl, ha, y, z, rfl, hy, hz⟩
 | pair i j =>
  rw [Kd.dv, Rep] at r
  obtain ⟨a, vs, rfl, ha, rs⟩ := r
  simp only [Reps] at rs
  obtain ⟨x, r1, rfl, hx, y, r2, rfl, hy, z, r3, rfl, hz, rfl⟩ := rs
  simp only [Rep] at hx
  subst hx
  exact ⟨a, _, rfl, ha, y, z, rfl, hy, hz⟩
theorem eE {H : Hp} {a : Addr} (h : H a = some (.tup [.str "whole"])) : Rep H Kd.whole.dv (.ref a) := by
 simp only [Kd.dv, Rep, Reps]
 exact ⟨a, _, rfl, h, _, _, rfl, rfl, rfl⟩
theorem oO {H : Hp} {a : Addr} {l : V} {c : Int} {ps : List Pr} (h : H a = some (.tup [.str "place", l])) (r : Rep H (dE c ps) l) : Rep H (Kd.place c ps).dv (.ref a) := by
 rw [Kd.dv, Rep]
 refine ⟨a, _, rfl, h, ?_⟩
 simp only [Reps]
 exact ⟨_, _, rfl, by simp only [Rep], _, _, rfl, r, rfl⟩
theorem jQ {H : Hp} {a : Addr} {l u : V} {c : Int} {ps : List Pr} {k : Kd} (h : H a = some (.tup [.str "row", l, u])) (r : Rep H (dE c ps) l) (r2 : Rep H k.dv u) : Rep H (Kd.row c ps k).dv (.ref a) := by
 rw [Kd.dv, Rep]
 refine ⟨a, _, rfl, h, ?_⟩
 simp only [Reps]
 exact ⟨_, _, rfl, by simp only [Rep], _, _, rfl, r, _, _, rfl, r2, rfl⟩
theorem kO {H : Hp} {a : Addr} {l u : V} {j k : Kd} (h : H a = some (.tup [.str "pair", l, u])) (r : Rep H j.dv l) (r2 : Rep H k.dv u) : Rep H (Kd.pair j k).dv (.ref a) := by
 rw [Kd.dv, Rep]
 refine ⟨a, _, rfl, h, ?_⟩
 simp only [Reps]
 exact ⟨_, _, rfl, by simp only [Rep], _, _, rfl, r, _, _, rfl, r2, rfl⟩
theorem iR {H : Hp} : ∀ {ds : List Dv} {d : Dv} {vs : List V}, Reps H (ds ++ [d]) vs -> ∃ vs0 v, vs = vs0 ++ [v] /\ Reps H ds vs0 /\ Rep H d v
 | [], d, vs, h => by
  simp only [List.nil_append, Reps] at h
  obtain ⟨v, r, rfl, hv, rfl⟩ := h
  exact ⟨[], v, rfl, by simp only [Reps], hv⟩
 | e :: ds, d, vs, h => by
  simp only [List.cons_append, Reps] at h
  obtain ⟨v, r, rfl, hv, hr⟩ := h
  obtain ⟨vs0, u, rfl, h1, h2⟩ := iR hr
  exact ⟨v :: vs0, u, rfl, by simp only [Reps]; exact ⟨v, vs0, rfl, hv, h1⟩, h2⟩
theorem dC {H : Hp} {d : Dv} {v : V} (h : Rep H d v) : Reps H [d] [v] := by simp only [Reps]; exact ⟨v, [], rfl, h, rfl⟩
theorem qx (vs : List V) (v : V) : (vs ++ [v])[(vs ++ [v]).length - 1]? = some v := by simp
theorem sQ {α : Type} : ∀ {l : List α}, l ≠ [] -> ∃ l0 x, l = l0 ++ [x] := fun {l} h => by
 rcases List.eq_nil_or_concat l with e | ⟨l0, x, e⟩
 ·exact absurd e h
 ·exact ⟨l0, x, by rw [e]; simp⟩
theorem gnm {i : Nat} {x : V} {σ : St} {H : Hp} {N : St -> Hp -> Prop} (h : N (σ.set i (some x)) H) : cV i x σ H N := h
end KB
namespace L2
open PySem PySem.Spec PyProof.Rows PySem.W
section
variable {X : Cx}
def wc : R2 := fun x y H Q => (uF x y = true /\ Q (.bl (decide (x = y))) H) \/ ∃ (n : Nat) (ds es : List Dv), Pl n (.tup ds) /\ Pl n (.tup es) /\ n <= 140 /\ Rep H (.tup ds) x /\ Rep H (.tup es) y /\ ∀ b : Bool, (b = true ↔ ds = es) -> Q (.bl b) H
theorem uD (hu : X.A.units + 150 < cLine) : OpR X (compareOp .Eq) wc := by
 intro pins s σ H x y v u Q I rx ry h
 rcases h with h | h
 ·exact bM pins s σ H x y v u Q I rx ry h
 ·exact ut hu pins s σ H x y v u Q I rx ry h
end
end L2
namespace KB
open PySem L2
theorem iL {H : Hp} : ∀ {ds : List Dv} {vs : List V} (n : Nat), Reps H ds vs -> Reps H (ds.take n) (vs.take n)
 | _, _, 0, _ => by simp only [List.take_zero, Reps]
 | [], vs, n + 1, h => by simp only [Reps] at h; subst h; simp only [List.take_nil, Reps]
 | d :: ds, vs, n + 1, h => by
  simp only [Reps] at h
  obtain ⟨v, r, rfl, h1, h2⟩ := h
  simp only [List.take_succ_cons, Reps]
  exact ⟨v, _, rfl, h1, iL n h2⟩
theorem gD (ds : List Dv) : isT (.tup ds) "tuple" = true := by
 unfold isT
 rw [show (Dv.tup ds).tn = "tuple" from rfl, beq_self_eq_true, Bool.true_or]
end KB
namespace L2
open PySem PySem.Spec PyProof.Rows PySem.W
section
variable {P : Program} {w : World} {A : Around} {E : Value -> Shared -> Prop} {s : Shared}
end
section
variable {X : Cx}
end
section
variable {X : Cx}
def vm : R2 := fun x y H Q => ∃ (n : Nat) (ds : List Dv), (∀ d ∈ ds, Pl n d) /\ n <= 140 /\ Rep H (.lst ds) x /\ Rep H (.lst ds) y /\ Q (.bl true) H
theorem sv (hu : X.A.units + 150 < cLine) : OpR X (compareOp .Eq) vm := by
 intro pins s σ H x y v u Q I rx ry h
 obtain ⟨n, ds, hd, hn, r1, r2, q⟩ := h
 simp only [Rep] at r1 r2
 obtain ⟨l, vs, rfl, h1, rs1⟩ := r1
 obtain ⟨b', ws, rfl, h2, rs2⟩ := r2
 cases rx
 cases ry
 obtain ⟨its, rv1, p1, _⟩ := I.list (SqL.of h1)
 obtain ⟨its2, rv2, p2, _⟩ := I.list (SqL.of h2)
 have hu' : X.A.in1.units + n < cLine := by show X.A.units + 1 + n < cLine; omega
 obtain ⟨z1, z2, w⟩ := dN I (A := X.A.in1) (n := n) (fun d hd1 e he v w a b r1 r2 q1 q2 => kj I (hd d hd1) (hd e he) hu' r1 r2 q1 q2) rs1 rs2 rv1 rv2
 refine SeqAt.RcAt.lists (e := fun j => eD (ds[j]? = ds[j]?)) p1.isList p2.isList (by omega) (by omega) w X.prog X.w X.xe _ ?_
 have e : ((List.range its.toArray.size).all fun j => eD (ds[j]? = ds[j]?)) = true := by
  rw [List.all_eq_true]
  exact fun j _ => cK.mpr rfl
 rw [e]
 exact ⟨.bl true, H, I, rfl, q⟩
end
section
variable {X : Cx}
end
section
variable {X : Cx}
end
section
variable {X : Cx}
end
section
variable {prog : Program} {w : World} {A : Around} {E : Value -> Shared -> Prop} {s : Shared} {r l : Addr} {items : Array Value}
end
section
variable {X : Cx} {e : Expr} {te : TE} {p p1 pos pos1 : Pos}
end
section
variable {X : Cx}
end
section
variable {X : Cx}
theorem qc {j : Int} (h0 : 0 < j) (h1 : j < 10 ^ 61) : j.natAbs.log2 < 9000 := by
 have hn : j.natAbs < 2 ^ 204 := by omega
 have := (Nat.log2_lt (n := j.natAbs) (k := 204) (by omega)).mpr hn
 omega
def vk (i j : Int) : Prop := 0 < j /\ j < 10 ^ 61
theorem vS : OpR X (binaryOp .FloorDiv) (rI vk fun i j => .int (i / j)) := opI fun i j _ _ _ _ _ hc q => by
 have h1 : (0 : Int) < j := hc.1
 exact floordiv_int (by omega) (by rw [Int.fdiv_eq_ediv_of_nonneg i (by omega)]; exact q) (.inl (PyProof.noPylong_of_log2 (qc hc.1 hc.2)))
def wx (te : TE) : TE := fun σ H Q => te σ H fun x H1 => ∃ i : Int, x = .int i /\ i.natAbs.log2 < 1920 /\ Q (.str (toString i)) H1
theorem wu {e : Expr} {te : TE} {pos : Pos} (he : PE X e te) : PE X (.FormattedValue e (-1) none pos) (wx te) := fun pins s σ H Q I h =>
 wpAny_FormattedValue_plain (thn (he pins s σ H _ I h) fun v s1 ⟨x, H1, I1, r1, i, ex, hd, q⟩ => by
  subst ex
  obtain ⟨k, rfl⟩ := r1
  exact wpAny_formatField_int hd ⟨.str (toString i), H1, I1.tok _, ⟨_, rfl⟩, q⟩)
theorem ug : MtR X "str.startswith" (fun x xs H Q => ∃ (a b : Str) (i : Int), x = .str a /\ xs = [.str b, .int i] /\ Q (.bl (Txt.startswith3 a b i)) H) := by
 intro pins s σ H x xs v us Q I rx r h
 obtain ⟨a, b, i, rfl, rfl, q⟩ := h
 obtain ⟨t, rfl⟩ := rx
 cases r with
 | cons r1 rr =>
  cases rr with
  | cons r2 rr =>
   cases rr
   obtain ⟨t1, rfl⟩ := r1
   obtain ⟨t2, rfl⟩ := r2
   exact SC.startswith3 ⟨.bl _, H, I, rfl, q⟩
theorem rD : cA X (.type "int") (fun xs H Q => ∃ (a : Str) (n : Int), xs = [.str a] /\ PySem.intText? a = some n /\ a.length <= 640 /\ Q (.int n) H) := by
 intro pins s σ H xs us Q I r h
 obtain ⟨a, n, rfl, hn, hl, q⟩ := h
 obtain ⟨u, rfl, t, rfl⟩ := cT r
 exact KIN.call_text hn hl ⟨.int n, H, I.tok _, ⟨_, rfl⟩, q⟩
theorem ip : ∀ l : List (Str × Tok), aF ((l.map (·.1)).map V.str) (strValues l)
 | [] => .nil
 | (x, t) :: l => .cons ⟨t, rfl⟩ (ip l)
theorem vD : MtR X "str.split" (fun x xs H Q => ∃ a b : Str, x = .str a /\ xs = [.str b] /\ (b.length == 0) = false /\ a.length <= sizeLine /\ (Txt.split a b).length <= sizeLine /\ ∀ p, H p = none -> Q (.ref p) (upd H p (.lst ((Txt.split a b).map V.str)))) := by
 intro pins s σ H x xs v us Q I rx r h
 obtain ⟨a, b, rfl, rfl, hb, ha, hz, q⟩ := h
 obtain ⟨t, rfl⟩ := rx
 obtain ⟨u, rfl, t1, rfl⟩ := cT r
 have fin : ∀ (l : List (Str × Tok)) (tk : Nat), l.map (·.1) = Txt.split a b -> EP X pins σ Q (.ref s.heap.objs.size) { s with heap := s.heap.push { cls := .type "list", data := .seq (strValues l).toArray }, toks := tk } := fun l tk e => by
  refine ⟨.ref _, _, I.laid (t' := tk) (o := .lst ((Txt.split a b).map V.str)) (fun b ob q => Heap.get?_push_of_some _ q) (Nat.le_refl _) ?_, rfl, q _ (I.hok.fresh (Nat.le_refl _))⟩
  refine ⟨by rw [List.length_map]; exact hz, strValues l, 0, ?_, Heap.get?_push_size _ rfl⟩
  rw [<- e]; exact ip l
 cases h1 : (decide (a.length < b.length) || decide (Builtin.Str.strKind a < Builtin.Str.strKind b))
 ·cases hf : (Builtin.Str.occurrences a b 0 a.length (a.length + 1)).isEmpty
  ·have es : Txt.split a b = Builtin.Str.partsBetween a (Builtin.Str.occurrences a b 0 a.length (a.length + 1)) b.length := (if_neg (ne_true_of_eq_false h1)).trans (if_neg (ne_true_of_eq_false hf))
   refine call_meets F.slot_str_split (typeIs_str _ _ _) F.entry_str_split (F.args_str_split_2 _ _) (meets_str_split_sep a b t t1 h1 hb hf ha (by rw [<- es]; exact hz)) ?_
   show wants (EP X pins σ Q) X.xe _ { s with toks := _, heap := s.heap.push { cls := .type "list", data := .seq (strsFrom s.toks (Builtin.Str.partsBetween a (Builtin.Str.occurrences a b 0 a.length (a.length + 1)) b.length)).toArray } }
   rw [strsFrom_eq]
   exact fin (numbered s.toks _) _ ((numbered_texts _ _).trans es.symm)
  ·exact call_meets F.slot_str_split (typeIs_str _ _ _) F.entry_str_split (F.args_str_split_2 _ _) (meets_str_split_not_found a b t t1 h1 hb hf) (fin [(a, t)] s.toks ((if_neg (ne_true_of_eq_false h1)).trans (if_pos hf)).symm)
 ·exact call_meets F.slot_str_split (typeIs_str _ _ _) F.entry_str_split (F.args_str_split_2 _ _) (meets_str_split_cannot_occur a b t t1 h1) (fin [(a, t)] s.toks (if_pos h1).symm)
end
end L2
namespace L2.TS
open PySem PySem.Spec PyProof.Rows
def gal : Bool -> Keyed -> Array Keyed -> Nat -> Nat -> Nat -> StateT SortSt Sem (Option Nat) := sortPriv% PySem.Builtin.gallop
def kh : Nat -> StateT SortSt Sem Unit := sortPriv% PySem.Builtin.setMinGallop
def mLo : Array Keyed -> Array Keyed -> StateT SortSt Sem (Array Keyed) := sortPriv% PySem.Builtin.mergeLo
def mHi : Array Keyed -> Array Keyed -> StateT SortSt Sem (Array Keyed) := sortPriv% PySem.Builtin.mergeHi
theorem tU (left : Bool) (key : Keyed) (xs : Array Keyed) (b n h : Nat) : gal left key xs b n h = (do
  let q (i : Nat) : StateT SortSt Sem (Option Bool) := do
   let x <- elem' xs (b + i)
   if left then lt' x key else return (<- lt' key x).map (!·)
  let mut last := 0
  let mut o := 1
  let mut l := 0
  let mut r := 0
  let some up <- q h | return none
  if up then
   let top := n - h
   for _ in [0:n] do
    if o >= top then break
    let some m <- q (h + o) | return none
    if !m then break
    last := o
    o := 2 * o + 1
   l := h + last + 1
   r := h + min o top
  else
   let top := h + 1
   for _ in [0:n] do
    if o >= top then break
    let some m <- q (h - o) | return none
    if m then break
    last := o
    o := 2 * o + 1
   l := h + 1 - min o top
   r := h - last
  for _ in [0:n] do
   if l >= r then break
   let m := l + (r - l) / 2
   let some c <- q m | return none
   if c then l := m + 1 else r := m
  return some r) := rfl
def Ask (prog : Program) (w : World) (A : Around) (s : Shared) (kd : SortKind) (M : Keyed -> Prop) (rk : Keyed -> Nat) : Prop :=
 ∀ (x y : Keyed) (C : Bool -> Shared -> Prop) (E : Value -> Shared -> Prop), M x -> M y -> C (decide (rk x < rk y)) s -> wpAny (model prog w) A (keyLt' kd x.1 y.1) C E s
section
variable {prog : Program} {w : World} {A : Around} {E : Value -> Shared -> Prop} {s : Shared} {kd : SortKind} {M : Keyed -> Prop} {rk : Keyed -> Nat}
theorem kA {x y : Keyed} {Q : Option Bool -> SortSt -> Prop} {st : SortSt} (O : Ask prog w A s kd M rk) (hk : kindOf st = kd) (hx : M x) (hy : M y) (h : Q (some (decide (rk x < rk y))) st) : wpS (model prog w) A E s (lt' x y) Q st := by
 rw [lt'_eq]
 refine wpS_bind (wpS_get ?_)
 rw [hk]
 refine wpS_bind (wpS_lift (wpAny_attempt (O x y _ _ hx hy ⟨rfl, ?_⟩)))
 exact wpS_pure h
theorem bH {xs : Array Keyed} {i : Nat} {x : Keyed} {Q : Keyed -> SortSt -> Prop} {st : SortSt} (hx : xs[i]? = some x) (h : Q x st) : wpS (model prog w) A E s (elem' xs i) Q st := by
 rw [elem'_eq, hx]
 exact wpS_pure h
def R (rk : Keyed -> Nat) (xs : Array Keyed) (i : Nat) : Nat := match xs[i]? with | some x => rk x | none => 0
theorem bT {xs : Array Keyed} {i : Nat} {x : Keyed} (h : xs[i]? = some x) : R rk xs i = rk x := by unfold R; rw [h]
def Bq (left : Bool) (k r : Nat) : Bool := if left then decide (r < k) else decide (r <= k)
theorem vM {left : Bool} {k r r' : Nat} (h : r' <= r) (e : Bq left k r = true) : Bq left k r' = true := by
 unfold Bq at e ⊢
 cases left <;> simp at e ⊢ <;> omega
theorem vX {left : Bool} {key x : Keyed} {xs : Array Keyed} {i : Nat} {Q : Option Bool -> SortSt -> Prop} {st : SortSt} (O : Ask prog w A s kd M rk) (hk : kindOf st = kd) (hm : M key) (hx : xs[i]? = some x) (hmx : M x) (h : Q (some (Bq left (rk key) (R rk xs i))) st) :
  wpS (model prog w) A E s (do
   let x <- elem' xs i
   if left then lt' x key else return (<- lt' key x).map (!·)) Q st := by
 refine wpS_bind (bH hx ?_)
 rw [bT hx] at h
 cases left with
 | true => exact kA O hk hmx hm h
 | false =>
  refine wpS_bind (kA O hk hm hmx (wpS_pure ?_))
  have e : (some (decide (rk key < rk x))).map (!·) = some (Bq false (rk key) (rk x)) := by
   show some (!decide (rk key < rk x)) = some (decide (rk x <= rk key))
   congr 1
   by_cases z : rk key < rk x
   ·rw [decide_eq_true z, decide_eq_false (by omega)]; rfl
   ·rw [decide_eq_false z, decide_eq_true (by omega)]; rfl
  rw [e]
  exact h
theorem gK {q : Nat -> StateT SortSt Sem (Option Bool)} {P : Nat -> Bool} {n l r : Nat} {Q : Option Nat -> SortSt -> Prop} {st : SortSt} (hq : ∀ i, i < n -> ∀ Q, Q (some (P i)) st -> wpS (model prog w) A E s (q i) Q st) (mo : ∀ i j, i <= j -> j < n -> P j = true -> P i = true)
  (h1 : l <= r) (h2 : r <= n) (h3 : ∀ i, i < l -> P i = true) (h4 : ∀ i, r <= i -> i < n -> P i = false) (k : ∀ k, k <= n -> (∀ i, i < k -> P i = true) -> (∀ i, k <= i -> i < n -> P i = false) -> Q (some k) st) :
  wpS (model prog w) A E s (do
   let mut l := l
   let mut r := r
   for _ in [0:n] do
    if l >= r then break
    let m := l + (r - l) / 2
    let some c <- q m | return none
    if c then l := m + 1 else r := m
   return some r) Q st := by
 refine wpS_bind (wpS_mono (wpS_forRange (I := fun x c st' => st' = st /\ ∃ l r, c = (none, l, r) /\ l <= r /\ r <= n /\ r - l <= n - x /\ (∀ i, i < l -> P i = true) /\ (∀ i, r <= i -> i < n -> P i = false))
  (Q := fun c st' => st' = st /\ ∃ l r, c = (none, l, r) /\ l = r /\ r <= n /\ (∀ i, i < l -> P i = true) /\ (∀ i, r <= i -> i < n -> P i = false)) ?step ?fin ⟨rfl, l, r, rfl, h1, h2, by omega, h3, h4⟩) ?post)
 case fin =>
  rintro c st' ⟨rfl, l, r, rfl, a1, a2, a3, a4, a5⟩
  exact ⟨rfl, l, r, rfl, by omega, a2, a4, a5⟩
 case post =>
  rintro c st' ⟨rfl, l, r, rfl, rfl, a2, a4, a5⟩
  exact wpS_pure (k l a2 a4 a5)
 case step =>
  rintro x c st' _ hx ⟨rfl, l, r, rfl, a1, a2, a3, a4, a5⟩
  dsimp only
  by_cases ge : l >= r
  ·rw [if_pos ge]
   exact wpS_pure ⟨rfl, l, r, rfl, by omega, a2, a4, a5⟩
  ·rw [if_neg ge]
   refine wpS_bind (hq _ (by omega) _ ?_)
   cases e : P (l + (r - l) / 2) with
   | true =>
    dsimp only
    rw [if_pos rfl]
    exact wpS_pure ⟨rfl, _, r, rfl, by omega, a2, by omega, fun i hi => mo i (l + (r - l) / 2) (by omega) (by omega) e, a5⟩
   | false =>
    dsimp only
    rw [if_neg (by decide)]
    refine wpS_pure ⟨rfl, l, _, rfl, by omega, by omega, by omega, a4, fun i hi hn => ?_⟩
    cases z : P i with
    | false => rfl
    | true => rw [mo _ i hi hn z] at e; cases e
theorem fR {left : Bool} {key : Keyed} {xs : Array Keyed} {b n h : Nat} {Q : Option Nat -> SortSt -> Prop} {st : SortSt} (O : Ask prog w A s kd M rk) (hk : kindOf st = kd) (hm : M key) (hx : ∀ i, i < n -> ∃ x, xs[b + i]? = some x /\ M x)
  (so : ∀ i j, i <= j -> j < n -> R rk xs (b + i) <= R rk xs (b + j)) (hh : h < n)
  (k : ∀ k, k <= n -> (∀ i, i < k -> Bq left (rk key) (R rk xs (b + i)) = true) -> (∀ i, k <= i -> i < n -> Bq left (rk key) (R rk xs (b + i)) = false) -> Q (some k) st) :
  wpS (model prog w) A E s (gal left key xs b n h) Q st := by
 rw [tU]
 dsimp only
 have hq : ∀ i, i < n -> ∀ Q : Option Bool -> SortSt -> Prop, Q (some (Bq left (rk key) (R rk xs (b + i)))) st -> wpS (model prog w) A E s (do
   let x <- elem' xs (b + i)
   if left then lt' x key else return (<- lt' key x).map (!·)) Q st := fun i hi Q q => by
  obtain ⟨x, e, mx⟩ := hx i hi
  exact vX O hk hm e mx q
 have mo : ∀ i j, i <= j -> j < n -> Bq left (rk key) (R rk xs (b + j)) = true -> Bq left (rk key) (R rk xs (b + i)) = true := fun i j hij hj e => vM (so i j hij hj) e
 obtain ⟨P, hP⟩ : ∃ P : Nat -> Bool, ∀ i, Bq left (rk key) (R rk xs (b + i)) = P i := ⟨fun i => Bq left (rk key) (R rk xs (b + i)), fun _ => rfl⟩
 simp only [hP] at hq mo k
 have fl : ∀ {i j}, P i = false -> i <= j -> j < n -> P j = false := fun {i j} e hij hj => by
  cases z : P j with
  | false => rfl
  | true => rw [mo i j hij hj z] at e; cases e
 refine wpS_bind (hq h hh _ ?_)
 cases e : P h with
 | true =>
  dsimp only
  rw [if_pos rfl]
  refine wpS_bind (wpS_mono (wpS_forRange (I := fun x c st' => st' = st /\ ∃ la o, c = (none, la, o) /\ x + 1 <= o /\ la < o /\ h + la < n /\ P (h + la) = true)
   (Q := fun c st' => st' = st /\ ∃ la o, c = (none, la, o) /\ la < o /\ h + la < n /\ P (h + la) = true /\ (n - h <= o \/ (h + o < n /\ P (h + o) = false))) ?step ?fin ⟨rfl, 0, 1, rfl, by omega, by omega, by omega, e⟩) ?post)
  case fin =>
   rintro c st' ⟨rfl, la, o, rfl, a1, a2, a3, a4⟩
   exact ⟨rfl, la, o, rfl, a2, a3, a4, .inl (by omega)⟩
  case step =>
   rintro x c st' _ hx ⟨rfl, la, o, rfl, a1, a2, a3, a4⟩
   dsimp only
   by_cases ge : o >= n - h
   ·rw [if_pos ge]
    exact wpS_pure ⟨rfl, la, o, rfl, a2, a3, a4, .inl ge⟩
   ·rw [if_neg ge]
    refine wpS_bind (hq _ (by omega) _ ?_)
    cases e2 : P (h + o) with
    | true =>
     dsimp only
     rw [if_neg (by decide)]
     exact wpS_pure ⟨rfl, o, _, rfl, by omega, by omega, by omega, e2⟩
    | false =>
     dsimp only
     rw [if_pos (by decide)]
     exact wpS_pure ⟨rfl, la, o, rfl, a2, a3, a4, .inr ⟨by omega, e2⟩⟩
  case post =>
   rintro c st' ⟨rfl, la, o, rfl, a2, a3, a4, a5⟩
   dsimp only
   refine gK hq mo (by omega) (by omega) (fun i hi => mo i (h + la) (by omega) a3 a4) (fun i hi hn => ?_) k
   rcases a5 with a5 | ⟨a5, a6⟩
   ·omega
   ·exact fl a6 (by omega) hn
 | false =>
  dsimp only
  rw [if_neg (by decide)]
  refine wpS_bind (wpS_mono (wpS_forRange (I := fun x c st' => st' = st /\ ∃ la o, c = (none, la, o) /\ x + 1 <= o /\ la < o /\ la <= h /\ P (h - la) = false)
   (Q := fun c st' => st' = st /\ ∃ la o, c = (none, la, o) /\ la < o /\ la <= h /\ P (h - la) = false /\ (h + 1 <= o \/ (o <= h /\ P (h - o) = true))) ?step ?fin ⟨rfl, 0, 1, rfl, by omega, by omega, by omega, e⟩) ?post)
  case fin =>
   rintro c st' ⟨rfl, la, o, rfl, a1, a2, a3, a4⟩
   exact ⟨rfl, la, o, rfl, a2, a3, a4, .inl (by omega)⟩
  case step =>
   rintro x c st' _ hx ⟨rfl, la, o, rfl, a1, a2, a3, a4⟩
   dsimp only
   by_cases ge : o >= h + 1
   ·rw [if_pos ge]
    exact wpS_pure ⟨rfl, la, o, rfl, a2, a3, a4, .inl ge⟩
   ·rw [if_neg ge]
    refine wpS_bind (hq _ (by omega) _ ?_)
    cases e2 : P (h - o) with
    | true =>
     dsimp only
     rw [if_pos rfl]
     exact wpS_pure ⟨rfl, la, o, rfl, a2, a3, a4, .inr ⟨by omega, e2⟩⟩
    | false =>
     dsimp only
     rw [if_neg (by decide)]
     exact wpS_pure ⟨rfl, o, _, rfl, by omega, by omega, by omega, e2⟩
  case post =>
   rintro c st' ⟨rfl, la, o, rfl, a2, a3, a4, a5⟩
   dsimp only
   refine gK hq mo (by omega) (by omega) (fun i hi => ?_) (fun i hi hn => fl a4 (by omega) hn) k
   rcases a5 with a5 | ⟨a5, a6⟩
   ·omega
   ·exact mo i (h - o) (by omega) (by omega) a6
end
end L2.TS
namespace L2.TS
open PySem PySem.Spec PyProof.Rows
abbrev Up (rk : Keyed -> Nat) (l : List Keyed) : Prop := l.Pairwise fun u v => rk u <= rk v
structure Two (rk : Keyed -> Nat) (M : Keyed -> Prop) (xs ys : List Keyed) : Prop where
 sx : Up rk xs
 sy : Up rk ys
 mx : ∀ u ∈ xs, M u
 my : ∀ u ∈ ys, M u
 nx : xs ≠ []
 ny : ys ≠ []
structure MI (rk : Keyed -> Nat) (xs ys o : List Keyed) (i j : Nat) : Prop where
 pm : o.Perm (xs.take i ++ ys.take j)
 so : Up rk o
 bx : ∀ u ∈ o, ∀ v ∈ xs.drop i, rk u <= rk v
 by_ : ∀ u ∈ o, ∀ v ∈ ys.drop j, rk u <= rk v
section
variable {rk : Keyed -> Nat} {M : Keyed -> Prop} {xs ys o : List Keyed} {i j : Nat}
theorem bX {l : List Keyed} {i : Nat} {u : Keyed} (h : l[i]? = some u) : l.drop i = u :: l.drop (i + 1) := by
 obtain ⟨hi, e⟩ := List.getElem?_eq_some_iff.mp h
 rw [List.drop_eq_getElem_cons hi, e]
theorem bW {l : List Keyed} {i : Nat} {u : Keyed} (h : l[i]? = some u) : l.take (i + 1) = l.take i ++ [u] := by
 rw [List.take_add_one, h]; rfl
theorem MI.tx {u : Keyed} (h : MI rk xs ys o i j) (T : Up rk xs) (hu : xs[i]? = some u) (le : ∀ v ∈ ys.drop j, rk u <= rk v) : MI rk xs ys (o ++ [u]) (i + 1) j := by
 have e := bX hu
 refine ⟨?_, List.pairwise_append.mpr ⟨h.so, List.pairwise_singleton _ _, fun a ha b hb => ?_⟩, fun a ha v hv => ?_, fun a ha v hv => ?_⟩
 ·rw [bW hu]
  refine (h.pm.append_right [u]).trans ?_
  rw [List.append_assoc, List.append_assoc]
  exact List.Perm.append_left _ List.perm_append_comm
 ·rw [List.mem_singleton.mp hb]
  exact h.bx a ha u (by rw [e]; exact List.mem_cons_self)
 ·rcases List.mem_append.mp ha with ha | ha
  ·exact h.bx a ha v (by rw [e]; exact List.mem_cons_of_mem _ hv)
  ·rw [List.mem_singleton.mp ha]
   have p : Up rk (xs.drop i) := T.sublist (List.drop_sublist _ _)
   rw [e] at p
   exact (List.pairwise_cons.mp p).1 v hv
 ·rcases List.mem_append.mp ha with ha | ha
  ·exact h.by_ a ha v hv
  ·rw [List.mem_singleton.mp ha]; exact le v hv
theorem MI.swap (h : MI rk xs ys o i j) : MI rk ys xs o j i := ⟨h.pm.trans List.perm_append_comm, h.so, h.by_, h.bx⟩
theorem MI.ty {u : Keyed} (h : MI rk xs ys o i j) (T : Up rk ys) (hu : ys[j]? = some u) (le : ∀ v ∈ xs.drop i, rk u <= rk v) : MI rk xs ys (o ++ [u]) i (j + 1) := (h.swap.tx T hu le).swap
theorem MI.gx (T : Up rk xs) : ∀ (c : Nat), MI rk xs ys o i j -> i + c <= xs.length -> (∀ k u, k < c -> xs[i + k]? = some u -> ∀ v ∈ ys.drop j, rk u <= rk v) -> MI rk xs ys (o ++ (xs.drop i).take c) (i + c) j
 | 0, h, _, _ => by rw [List.take_zero, List.append_nil]; exact h
 | c + 1, h, hl, le => by
  have p := MI.gx T c h (by omega) fun k u hk => le k u (by omega)
  have hc : xs[i + c]? = some xs[i + c] := List.getElem?_eq_getElem (by omega)
  have e : (xs.drop i)[c]? = some xs[i + c] := by rw [List.getElem?_drop]; exact hc
  rw [bW e, <- List.append_assoc]
  exact p.tx T hc (le c _ (by omega) hc)
theorem MI.gy (T : Up rk ys) (c : Nat) (h : MI rk xs ys o i j) (hl : j + c <= ys.length) (le : ∀ k u, k < c -> ys[j + k]? = some u -> ∀ v ∈ xs.drop i, rk u <= rk v) : MI rk xs ys (o ++ (ys.drop j).take c) i (j + c) := (MI.gx T c h.swap hl le).swap
def Res (rk : Keyed -> Nat) (xs ys r : List Keyed) : Prop := r.Perm (xs ++ ys) /\ Up rk r
theorem jA (l : List Keyed) (i : Nat) : l.take i ++ l.drop i = l := List.take_append_drop i l
theorem MI.end2 (h : MI rk xs ys o i j) {r : List Keyed} (hr : r.Perm (xs.drop i ++ ys.drop j)) (up : Up rk r) : Res rk xs ys (o ++ r) := by
 refine ⟨?_, List.pairwise_append.mpr ⟨h.so, up, fun a ha b hb => ?_⟩⟩
 ·refine (h.pm.append hr).trans ?_
  conv => rhs; rw [<- jA xs i, <- jA ys j]
  rw [List.append_assoc, List.append_assoc]
  refine List.Perm.append_left _ ?_
  rw [<- List.append_assoc, <- List.append_assoc]
  exact List.Perm.append_right _ List.perm_append_comm
 ·rcases List.mem_append.mp (hr.mem_iff.mp hb) with hb | hb
  ·exact h.bx a ha b hb
  ·exact h.by_ a ha b hb
theorem MI.fin (h : MI rk xs ys o i j) (sx : Up rk xs) (sy : Up rk ys) (e : j = ys.length \/ i = xs.length) : Res rk xs ys (o ++ xs.drop i ++ ys.drop j) := by
 rw [List.append_assoc]
 refine h.end2 (List.Perm.refl _) ?_
 rcases e with rfl | rfl
 ·rw [List.drop_length, List.append_nil]; exact sx.sublist (List.drop_sublist _ _)
 ·rw [List.drop_length, List.nil_append]; exact sy.sublist (List.drop_sublist _ _)
theorem MI.end1 (h : MI rk xs ys o i j) (sy : Up rk ys) (e : i + 1 = xs.length) (la : ∀ u, xs[i]? = some u -> ∀ v ∈ ys, rk v <= rk u) : Res rk xs ys (o ++ ys.drop j ++ xs.drop i) := by
 rw [List.append_assoc]
 have hi : xs[i]? = some xs[i] := List.getElem?_eq_getElem (by omega)
 have ed := bX hi
 rw [e, List.drop_length] at ed
 refine h.end2 List.perm_append_comm (List.pairwise_append.mpr ⟨sy.sublist (List.drop_sublist _ _), ?_, fun a ha b hb => ?_⟩)
 ·rw [ed]; exact List.pairwise_singleton _ _
 ·rw [ed] at hb; rw [List.mem_singleton.mp hb]
  exact la _ hi a (List.mem_of_mem_drop ha)
theorem eh {l : List Keyed} (h : Up rk l) {i j : Nat} {u v : Keyed} (hij : i <= j) (hu : l[i]? = some u) (hv : l[j]? = some v) : rk u <= rk v := by
 obtain ⟨h1, e1⟩ := List.getElem?_eq_some_iff.mp hu
 obtain ⟨h2, e2⟩ := List.getElem?_eq_some_iff.mp hv
 rw [<- e1, <- e2]
 by_cases e : i = j
 ·subst e; exact Nat.le_refl _
 ·exact List.pairwise_iff_getElem.mp h i j h1 h2 (by omega)
theorem fm {l : List Keyed} (h : Up rk l) {i : Nat} {u v : Keyed} (hu : l[i]? = some u) (hv : v ∈ l.drop i) : rk u <= rk v := by
 obtain ⟨k, hk⟩ := List.mem_iff_getElem?.mp hv
 rw [List.getElem?_drop] at hk
 exact eh h (by omega) hu hk
end
theorem gg {a : Array Keyed} {i n : Nat} : (a.extract i n).toList = (a.toList.drop i).take (n - i) := by rw [Array.toList_extract]
theorem jW {a : Array Keyed} {i : Nat} : (a.extract i a.size).toList = a.toList.drop i := by
 rw [gg, List.take_of_length_le]
 rw [List.length_drop, Array.length_toList]; omega
theorem bU {a : Array Keyed} {i : Nat} : a[i]? = a.toList[i]? := by rw [Array.getElem?_toList]
end L2.TS
namespace L2.TS
open PySem PySem.Spec PyProof.Rows
abbrev SG : Type := Option (Array Keyed) × Array Keyed × Nat × Nat × Nat × Nat × Nat
abbrev SI : Type := Option (Array Keyed) × Array Keyed × Nat × Nat × Nat × Nat
abbrev SO : Type := Option (Array Keyed) × Array Keyed × Nat × Nat × Nat
def fq (xs ys o : Array Keyed) (i j : Nat) : Array Keyed := o ++ xs.extract i xs.size ++ ys.extract j ys.size
def jo (xs ys o : Array Keyed) (i j : Nat) : Array Keyed := o ++ ys.extract j ys.size ++ xs.extract i xs.size
def lo3 (xs ys o : Array Keyed) (i j mg ac bc : Nat) : StateT SortSt Sem (ForInStep SG) := do
 let x <- elem' xs i
 if (i + 1 + 1 == xs.size) = true then pure (.done (some (jo xs ys (o.push x) (i + 1) j), o.push x, i + 1, j, mg, ac, bc))
 else if (decide (ac < 7) && decide (bc < 7)) = true then pure (.done (none, o.push x, i + 1, j, mg, ac, bc))
 else pure (.yield (none, o.push x, i + 1, j, mg, ac, bc))
def lo2 (xs ys o : Array Keyed) (i j mg ac bc : Nat) : StateT SortSt Sem (ForInStep SG) := do
 let y <- elem' ys j
 if (j + 1 == ys.size) = true then pure (.done (some (fq xs ys (o.push y) i (j + 1)), o.push y, i, j + 1, mg, ac, bc))
 else do
  let x <- elem' xs i
  match <- gal true x ys (j + 1) (ys.size - (j + 1)) 0 with
  | some c =>
   if c > 0 then
    if (j + 1 + c == ys.size) = true then pure (.done (some (fq xs ys (o.push y ++ ys.extract (j + 1) (j + 1 + c)) i (j + 1 + c)), o.push y ++ ys.extract (j + 1) (j + 1 + c), i, j + 1 + c, mg, ac, c))
    else lo3 xs ys (o.push y ++ ys.extract (j + 1) (j + 1 + c)) i (j + 1 + c) mg ac c
   else lo3 xs ys (o.push y) i (j + 1) mg ac c
  | _ => pure (.done (some (fq xs ys (o.push y) i (j + 1)), o.push y, i, j + 1, mg, ac, bc))
def lo1 (xs ys o : Array Keyed) (i j mg ac bc : Nat) : StateT SortSt Sem (ForInStep SG) := do
 kh mg
 let y <- elem' ys j
 match <- gal false y xs i (xs.size - i) 0 with
 | some c =>
  if c > 0 then
   if (i + c + 1 == xs.size) = true then pure (.done (some (jo xs ys (o ++ xs.extract i (i + c)) (i + c) j), o ++ xs.extract i (i + c), i + c, j, mg, c, bc))
   else if (i + c == xs.size) = true then pure (.done (some (fq xs ys (o ++ xs.extract i (i + c)) (i + c) j), o ++ xs.extract i (i + c), i + c, j, mg, c, bc))
   else lo2 xs ys (o ++ xs.extract i (i + c)) (i + c) j mg c bc
  else lo2 xs ys o i j mg c bc
 | _ => pure (.done (some (fq xs ys o i j), o, i, j, mg, ac, bc))
def loA (xs ys : Array Keyed) (mg : Nat) (c : SI) : StateT SortSt Sem (ForInStep SI) := do
 let y <- elem' ys c.2.2.2.1
 let x <- elem' xs c.2.2.1
 match <- lt' y x with
 | some yw =>
  if yw = true then do
   let y <- elem' ys c.2.2.2.1
   if (c.2.2.2.1 + 1 == ys.size) = true then pure (.done (some (fq xs ys (c.2.1.push y) c.2.2.1 (c.2.2.2.1 + 1)), c.2.1.push y, c.2.2.1, c.2.2.2.1 + 1, 0, c.2.2.2.2.2 + 1))
   else if c.2.2.2.2.2 + 1 >= mg then pure (.done (none, c.2.1.push y, c.2.2.1, c.2.2.2.1 + 1, 0, c.2.2.2.2.2 + 1))
   else pure (.yield (none, c.2.1.push y, c.2.2.1, c.2.2.2.1 + 1, 0, c.2.2.2.2.2 + 1))
  else do
   let x <- elem' xs c.2.2.1
   if (c.2.2.1 + 1 + 1 == xs.size) = true then pure (.done (some (jo xs ys (c.2.1.push x) (c.2.2.1 + 1) c.2.2.2.1), c.2.1.push x, c.2.2.1 + 1, c.2.2.2.1, c.2.2.2.2.1 + 1, 0))
   else if c.2.2.2.2.1 + 1 >= mg then pure (.done (none, c.2.1.push x, c.2.2.1 + 1, c.2.2.2.1, c.2.2.2.2.1 + 1, 0))
   else pure (.yield (none, c.2.1.push x, c.2.2.1 + 1, c.2.2.2.1, c.2.2.2.2.1 + 1, 0))
 | _ => pure (.done (some (fq xs ys c.2.1 c.2.2.1 c.2.2.2.1), c.2.1, c.2.2.1, c.2.2.2.1, c.2.2.2.2.1, c.2.2.2.2.2))
def loB (xs ys : Array Keyed) (d : SO) : StateT SortSt Sem (ForInStep SO) := do
 let c <- forIn [0:xs.size + ys.size] ((none, d.2.1, d.2.2.1, d.2.2.2.1, 0, 0) : SI) fun _ c => loA xs ys d.2.2.2.2 c
 match c.1 with
 | some r => pure (.done (some r, c.2.1, c.2.2.1, c.2.2.2.1, d.2.2.2.2))
 | none => do
  rule "list.sort.gallop"
  let e <- forIn [0:xs.size + ys.size] ((none, c.2.1, c.2.2.1, c.2.2.2.1, d.2.2.2.2 + 1, c.2.2.2.2.1, c.2.2.2.2.2) : SG) fun _ e =>
   if e.2.2.2.2.1 > 1 then lo1 xs ys e.2.1 e.2.2.1 e.2.2.2.1 (e.2.2.2.2.1 - 1) e.2.2.2.2.2.1 e.2.2.2.2.2.2
   else lo1 xs ys e.2.1 e.2.2.1 e.2.2.2.1 e.2.2.2.2.1 e.2.2.2.2.2.1 e.2.2.2.2.2.2
  match e.1 with
  | some r => pure (.done (some r, e.2.1, e.2.2.1, e.2.2.2.1, e.2.2.2.2.1))
  | none => do
   kh (e.2.2.2.2.1 + 1)
   pure (.yield (none, e.2.1, e.2.2.1, e.2.2.2.1, e.2.2.2.2.1 + 1))
theorem bL {β γ : Type} {r : Std.Legacy.Range} {c : β} {f g : Nat -> β -> StateT SortSt Sem (ForInStep β)} {h k : β -> StateT SortSt Sem γ} (h1 : ∀ x d, f x d = g x d) (h2 : ∀ d, h d = k d) : (forIn r c f >>= h) = (forIn r c g >>= k) := by rw [show f = g from funext fun x => funext (h1 x), show h = k from funext h2]
theorem si (xs ys : Array Keyed) : mLo xs ys = (do
  rule "list.sort.merge-lo"
  let all := xs.size + ys.size
  let fin (o : Array Keyed) (i j : Nat) := o ++ xs.extract i xs.size ++ ys.extract j ys.size
  let end1 (o : Array Keyed) (i j : Nat) := o ++ ys.extract j ys.size ++ xs.extract i xs.size
  let mut o : Array Keyed := #[<- elem' ys 0]
  let mut i := 0
  let mut j := 1
  if j == ys.size then return fin o i j
  if i + 1 == xs.size then return end1 o i j
  let mut mg := gallopOf (<- get)
  for _ in [0:all] do
   let mut ac := 0
   let mut bc := 0
   for _ in [0:all] do
    let some yw <- lt' (<- elem' ys j) (<- elem' xs i) | return fin o i j
    if yw then
     o := o.push (<- elem' ys j); j := j + 1; bc := bc + 1; ac := 0
     if j == ys.size then return fin o i j
     if bc >= mg then break
    else
     o := o.push (<- elem' xs i); i := i + 1; ac := ac + 1; bc := 0
     if i + 1 == xs.size then return end1 o i j
     if ac >= mg then break
   rule "list.sort.gallop"
   mg := mg + 1
   for _ in [0:all] do
    if mg > 1 then mg := mg - 1
    kh mg
    let some c <- gal false (<- elem' ys j) xs i (xs.size - i) 0 | return fin o i j
    ac := c
    if c > 0 then
     o := o ++ xs.extract i (i + c); i := i + c
     if i + 1 == xs.size then return end1 o i j
     if i == xs.size then return fin o i j
    o := o.push (<- elem' ys j); j := j + 1
    if j == ys.size then return fin o i j
    let some c <- gal true (<- elem' xs i) ys j (ys.size - j) 0 | return fin o i j
    bc := c
    if c > 0 then
     o := o ++ ys.extract j (j + c); j := j + c
     if j == ys.size then return fin o i j
    o := o.push (<- elem' xs i); i := i + 1
    if i + 1 == xs.size then return end1 o i j
    if ac < 7 && bc < 7 then break
   mg := mg + 1
   kh mg
  unsupported "internal:list.sort.merge-bound") := rfl
theorem uV (xs ys : Array Keyed) : mLo xs ys = (do
  rule "list.sort.merge-lo"
  let y <- elem' ys 0
  if (1 == ys.size) = true then pure (fq xs ys #[y] 0 1)
  else if (0 + 1 == xs.size) = true then pure (jo xs ys #[y] 0 1)
  else do
   let g <- get
   let d <- forIn [0:xs.size + ys.size] ((none, #[y], 0, 1, gallopOf g) : SO) fun _ d => loB xs ys d
   match d.1 with
   | some r => pure r
   | none => unsupported "internal:list.sort.merge-bound") := by
 rw [si]
 refine bind_congr fun _ => ?_
 refine bind_congr fun y => ?_
 refine ite_congr rfl (fun _ => rfl) fun _ => ?_
 refine ite_congr rfl (fun _ => rfl) fun _ => ?_
 refine bind_congr fun g => ?_
 refine bL (fun x d => ?_) (fun d => by obtain ⟨r, d⟩ := d; cases r <;> rfl)
 unfold loB
 refine bL (fun x c => rfl) (fun c => ?_)
 obtain ⟨r, o, i, j, ac, bc⟩ := c
 cases r with
 | some r => rfl
 | none =>
  refine bind_congr fun _ => ?_
  refine bL (fun x e => ?_) (fun d => ?_)
  ·refine ite_congr rfl (fun _ => ?_) fun _ => ?_
   ·unfold lo1
    refine bind_congr fun _ => ?_
    refine bind_congr fun y => ?_
    refine bind_congr fun c => ?_
    cases c with
    | none => rfl
    | some c =>
     refine ite_congr rfl (fun _ => ?_) fun _ => ?_
     ·refine ite_congr rfl (fun _ => rfl) fun _ => ?_
      refine ite_congr rfl (fun _ => rfl) fun _ => ?_
      unfold lo2
      rfl
     ·rfl
   ·rfl
  ·obtain ⟨r, d⟩ := d; cases r <;> rfl
theorem gB (g : Nat) : kh g = modify fun st => SortSt.mk' (kindOf st) (arrOf st) (pendingOf st) g (failedOf st) := rfl
structure Ok (st st' : SortSt) : Prop where
 kd : kindOf st' = kindOf st
 ar : arrOf st' = arrOf st
 pe : pendingOf st' = pendingOf st
 fa : failedOf st' = failedOf st
theorem Ok.refl (st : SortSt) : Ok st st := ⟨rfl, rfl, rfl, rfl⟩
theorem Ok.trans {a b c : SortSt} (h : Ok a b) (k : Ok b c) : Ok a c := ⟨k.kd.trans h.kd, k.ar.trans h.ar, k.pe.trans h.pe, k.fa.trans h.fa⟩
def Aft (rk : Keyed -> Nat) (xs ys : Array Keyed) (n : Nat) (st : SortSt) {α : Type} (r : Option (Array Keyed)) (o : Array Keyed) (i j : Nat) (st' : SortSt) : Prop :=
 Ok st st' /\ match r with
  | some r => Res rk xs.toList ys.toList r.toList
  | none => MI rk xs.toList ys.toList o.toList i j /\ i + 1 < xs.size /\ j < ys.size /\ n < i + j
def oK (rk : Keyed -> Nat) (xs ys : Array Keyed) (n : Nat) (st : SortSt) (r : ForInStep SG) (st' : SortSt) : Prop := match r with
 | .done e => Aft (α := Unit) rk xs ys n st e.1 e.2.1 e.2.2.1 e.2.2.2.1 st'
 | .yield e => e.1 = none /\ Aft (α := Unit) rk xs ys n st e.1 e.2.1 e.2.2.1 e.2.2.2.1 st'
section
variable {prog : Program} {w : World} {A : Around} {E : Value -> Shared -> Prop} {s : Shared} {kd : SortKind} {M : Keyed -> Prop} {rk : Keyed -> Nat} {xs ys o : Array Keyed} {i j mg ac bc n : Nat} {st : SortSt}
theorem dR {u : Keyed} : (o.push u).toList = o.toList ++ [u] := Array.toList_push
theorem pW {c : Nat} : (o ++ xs.extract i (i + c)).toList = o.toList ++ (xs.toList.drop i).take c := by rw [Array.toList_append, gg, Nat.add_sub_cancel_left]
theorem fL : (fq xs ys o i j).toList = o.toList ++ xs.toList.drop i ++ ys.toList.drop j := by unfold fq; rw [Array.toList_append, Array.toList_append, jW, jW]
theorem gF : (jo xs ys o i j).toList = o.toList ++ ys.toList.drop j ++ xs.toList.drop i := by unfold jo; rw [Array.toList_append, Array.toList_append, jW, jW]
theorem aO {a : Array Keyed} {k : Nat} (h : k < a.size) : ∃ u, a[k]? = some u /\ a.toList[k]? = some u := ⟨a[k], getElem?_pos a k h, by rw [<- bU]; exact getElem?_pos a k h⟩
theorem ql (T : Two rk M xs.toList ys.toList) (la : ∀ u, xs.toList[xs.size - 1]? = some u -> ∀ v ∈ ys.toList, rk v <= rk u) (h : MI rk xs.toList ys.toList o.toList i j) (hi : i + 1 < xs.size) (hj : j < ys.size) (hn : n <= i + j)
  (le : ∀ u, xs.toList[i]? = some u -> ∀ v ∈ ys.toList.drop j, rk u <= rk v) : wpS (model prog w) A E s (lo3 xs ys o i j mg ac bc) (oK rk xs ys n st) st := by
 unfold lo3
 obtain ⟨x, e1, e2⟩ := aO (a := xs) (k := i) (by omega)
 refine wpS_bind (bH e1 ?_)
 have h1 := h.tx T.sx e2 (le x e2)
 rw [<- dR] at h1
 by_cases c1 : (i + 1 + 1 == xs.size) = true
 ·rw [if_pos c1]
  have c1' : i + 1 + 1 = xs.size := by simpa using c1
  refine wpS_pure ⟨Ok.refl _, ?_⟩
  show Res _ _ _ (jo _ _ _ _ _).toList
  rw [gF]
  exact h1.end1 T.sy (by rw [Array.length_toList]; exact c1') fun u hu => la u (by rw [<- c1']; exact hu)
 ·rw [if_neg c1]
  have c1' : ¬ i + 1 + 1 = xs.size := by simpa using c1
  have z : Aft (α := Unit) rk xs ys n st none (o.push x) (i + 1) j st := ⟨Ok.refl _, h1, by omega, hj, by omega⟩
  by_cases c2 : (decide (ac < 7) && decide (bc < 7)) = true
  ·rw [if_pos c2]; exact wpS_pure z
  ·rw [if_neg c2]; exact wpS_pure ⟨rfl, z⟩
theorem qX (O : Ask prog w A s kd M rk) (hk : kindOf st = kd) (T : Two rk M xs.toList ys.toList) (la : ∀ u, xs.toList[xs.size - 1]? = some u -> ∀ v ∈ ys.toList, rk v <= rk u) (h : MI rk xs.toList ys.toList o.toList i j) (hi : i + 1 < xs.size) (hj : j < ys.size) (hn : n <= i + j)
  (le : ∀ u, ys.toList[j]? = some u -> ∀ v ∈ xs.toList.drop i, rk u <= rk v) : wpS (model prog w) A E s (lo2 xs ys o i j mg ac bc) (oK rk xs ys n st) st := by
 unfold lo2
 obtain ⟨y, e1, e2⟩ := aO (a := ys) (k := j) hj
 refine wpS_bind (bH e1 ?_)
 have h1 := h.ty T.sy e2 (le y e2)
 rw [<- dR] at h1
 by_cases c1 : (j + 1 == ys.size) = true
 ·rw [if_pos c1]
  have c1' : j + 1 = ys.size := by simpa using c1
  refine wpS_pure ⟨Ok.refl _, ?_⟩
  show Res _ _ _ (fq _ _ _ _ _).toList
  rw [fL]
  exact h1.fin T.sx T.sy (.inl (by rw [Array.length_toList]; exact c1'))
 ·rw [if_neg c1]
  have c1' : ¬ j + 1 = ys.size := by simpa using c1
  obtain ⟨x, f1, f2⟩ := aO (a := xs) (k := i) (by omega)
  refine wpS_bind (bH f1 ?_)
  refine wpS_bind (fR O hk (T.mx x (List.mem_of_getElem? f2)) (fun k hk' => ?_) (fun a b hab hb => ?_) (by omega) fun c hc lo hi' => ?_)
  ·obtain ⟨u, g1, g2⟩ := aO (a := ys) (k := j + 1 + k) (by omega)
   exact ⟨u, g1, T.my u (List.mem_of_getElem? g2)⟩
  ·obtain ⟨u, g1, g2⟩ := aO (a := ys) (k := j + 1 + a) (by omega)
   obtain ⟨v, k1, k2⟩ := aO (a := ys) (k := j + 1 + b) (by omega)
   rw [bT g1, bT k1]
   exact eh T.sy (by omega) g2 k2
  dsimp only
  have bl : ∀ k u, k < c -> ys.toList[j + 1 + k]? = some u -> rk u < rk x := fun k u hk' hu => by
   have := lo k hk'
   rw [bT (by rw [bU]; exact hu)] at this
   exact of_decide_eq_true this
  have ab : ∀ v ∈ ys.toList.drop (j + 1 + c), rk x <= rk v := fun v hv => by
   obtain ⟨k, hk'⟩ := List.mem_iff_getElem?.mp hv
   rw [List.getElem?_drop] at hk'
   have hl := (List.getElem?_eq_some_iff.mp hk').1
   rw [Array.length_toList] at hl
   have := hi' (c + k) (by omega) (by omega)
   rw [bT (x := v) (by rw [bU, <- hk']; congr 1; omega)] at this
   have := of_decide_eq_false this
   omega
  have h2 := MI.gy T.sy c h1 (by rw [Array.length_toList]; omega) fun k u hk' hu v hv => Nat.le_trans (Nat.le_of_lt (bl k u hk' hu)) (fm T.sx f2 hv)
  rw [<- pW] at h2
  by_cases c2 : c > 0
  ·rw [if_pos c2]
   by_cases c3 : (j + 1 + c == ys.size) = true
   ·rw [if_pos c3]
    have c3' : j + 1 + c = ys.size := by simpa using c3
    refine wpS_pure ⟨Ok.refl _, ?_⟩
    show Res _ _ _ (fq _ _ _ _ _).toList
    rw [fL]
    exact h2.fin T.sx T.sy (.inl (by rw [Array.length_toList]; exact c3'))
   ·rw [if_neg c3]
    have c3' : ¬ j + 1 + c = ys.size := by simpa using c3
    exact ql T la h2 hi (by omega) (by omega) fun u hu v hv => by rw [f2] at hu; cases hu; exact ab v hv
  ·rw [if_neg c2]
   have c0 : c = 0 := by omega
   subst c0
   exact ql T la h1 hi (by omega) (by omega) fun u hu v hv => by rw [f2] at hu; cases hu; exact ab v hv
theorem qM (O : Ask prog w A s kd M rk) (hk : kindOf st = kd) (T : Two rk M xs.toList ys.toList) (la : ∀ u, xs.toList[xs.size - 1]? = some u -> ∀ v ∈ ys.toList, rk v <= rk u) (h : MI rk xs.toList ys.toList o.toList i j) (hi : i + 1 < xs.size) (hj : j < ys.size) (hn : n <= i + j) :
  wpS (model prog w) A E s (lo1 xs ys o i j mg ac bc) (oK rk xs ys n st) st := by
 unfold lo1
 rw [gB]
 refine wpS_bind (wpS_modify ?_)
 generalize hst : SortSt.mk' (kindOf st) (arrOf st) (pendingOf st) mg (failedOf st) = st1
 have ok1 : Ok st st1 := by rw [<- hst]; exact ⟨rfl, rfl, rfl, rfl⟩
 have hk1 : kindOf st1 = kd := ok1.kd.trans hk
 obtain ⟨y, e1, e2⟩ := aO (a := ys) (k := j) hj
 refine wpS_bind (bH e1 ?_)
 have lift : ∀ r st', oK rk xs ys n st1 r st' -> oK rk xs ys n st r st' := fun r st' z => by
  cases r with
  | done e => exact ⟨ok1.trans z.1, z.2⟩
  | yield e => exact ⟨z.1, ok1.trans z.2.1, z.2.2⟩
 refine wpS_bind (fR O hk1 (T.my y (List.mem_of_getElem? e2)) (fun k hk' => ?_) (fun a b hab hb => ?_) (by omega) fun c hc lo hi' => ?_)
 ·obtain ⟨u, g1, g2⟩ := aO (a := xs) (k := i + k) (by omega)
  exact ⟨u, g1, T.mx u (List.mem_of_getElem? g2)⟩
 ·obtain ⟨u, g1, g2⟩ := aO (a := xs) (k := i + a) (by omega)
  obtain ⟨v, k1, k2⟩ := aO (a := xs) (k := i + b) (by omega)
  rw [bT g1, bT k1]
  exact eh T.sx (by omega) g2 k2
 dsimp only
 have bl : ∀ k u, k < c -> xs.toList[i + k]? = some u -> rk u <= rk y := fun k u hk' hu => by
  have := lo k hk'
  rw [bT (by rw [bU]; exact hu)] at this
  exact of_decide_eq_true this
 have ab : ∀ v ∈ xs.toList.drop (i + c), rk y <= rk v := fun v hv => by
  obtain ⟨k, hk'⟩ := List.mem_iff_getElem?.mp hv
  rw [List.getElem?_drop] at hk'
  have hl := (List.getElem?_eq_some_iff.mp hk').1
  rw [Array.length_toList] at hl
  have := hi' (c + k) (by omega) (by omega)
  rw [bT (x := v) (by rw [bU, <- hk']; congr 1; omega)] at this
  have := of_decide_eq_false this
  omega
 have h2 := MI.gx T.sx c h (by rw [Array.length_toList]; omega) fun k u hk' hu v hv => Nat.le_trans (bl k u hk' hu) (fm T.sy e2 hv)
 rw [<- pW] at h2
 by_cases c2 : c > 0
 ·rw [if_pos c2]
  by_cases c3 : (i + c + 1 == xs.size) = true
  ·rw [if_pos c3]
   have c3' : i + c + 1 = xs.size := by simpa using c3
   refine wpS_pure ⟨ok1, ?_⟩
   show Res _ _ _ (jo _ _ _ _ _).toList
   rw [gF]
   exact h2.end1 T.sy (by rw [Array.length_toList]; exact c3') fun u hu => la u (by rw [<- c3']; exact hu)
  ·rw [if_neg c3]
   have c3' : ¬ i + c + 1 = xs.size := by simpa using c3
   by_cases c4 : (i + c == xs.size) = true
   ·rw [if_pos c4]
    have c4' : i + c = xs.size := by simpa using c4
    refine wpS_pure ⟨ok1, ?_⟩
    show Res _ _ _ (fq _ _ _ _ _).toList
    rw [fL]
    exact h2.fin T.sx T.sy (.inr (by rw [Array.length_toList]; exact c4'))
   ·rw [if_neg c4]
    have c4' : ¬ i + c = xs.size := by simpa using c4
    exact wpS_mono (qX O hk1 T la h2 (by omega) hj (by omega) fun u hu v hv => by rw [e2] at hu; cases hu; exact ab v hv) lift
 ·rw [if_neg c2]
  have c0 : c = 0 := by omega
  subst c0
  exact wpS_mono (qX O hk1 T la h hi hj hn fun u hu v hv => by rw [e2] at hu; cases hu; exact ab v hv) lift
def wd (rk : Keyed -> Nat) (xs ys : Array Keyed) (n : Nat) (st : SortSt) (r : ForInStep SI) (st' : SortSt) : Prop := match r with
 | .done e => Aft (α := Unit) rk xs ys n st e.1 e.2.1 e.2.2.1 e.2.2.2.1 st'
 | .yield e => e.1 = none /\ Aft (α := Unit) rk xs ys n st e.1 e.2.1 e.2.2.1 e.2.2.2.1 st'
theorem uI (O : Ask prog w A s kd M rk) (hk : kindOf st = kd) (T : Two rk M xs.toList ys.toList) (la : ∀ u, xs.toList[xs.size - 1]? = some u -> ∀ v ∈ ys.toList, rk v <= rk u) (h : MI rk xs.toList ys.toList o.toList i j) (hi : i + 1 < xs.size) (hj : j < ys.size) (hn : n <= i + j) :
  wpS (model prog w) A E s (loA xs ys mg (none, o, i, j, ac, bc)) (wd rk xs ys n st) st := by
 unfold loA
 dsimp only
 obtain ⟨y, e1, e2⟩ := aO (a := ys) (k := j) hj
 obtain ⟨x, f1, f2⟩ := aO (a := xs) (k := i) (by omega)
 refine wpS_bind (bH e1 (wpS_bind (bH f1 (wpS_bind (kA O hk (T.my y (List.mem_of_getElem? e2)) (T.mx x (List.mem_of_getElem? f2)) ?_)))))
 dsimp only
 by_cases c0 : rk y < rk x
 ·rw [decide_eq_true c0, if_pos rfl]
  refine wpS_bind (bH e1 ?_)
  have h1 := h.ty T.sy e2 fun v hv => Nat.le_trans (Nat.le_of_lt c0) (fm T.sx f2 hv)
  rw [<- dR] at h1
  by_cases c1 : (j + 1 == ys.size) = true
  ·rw [if_pos c1]
   have c1' : j + 1 = ys.size := by simpa using c1
   refine wpS_pure ⟨Ok.refl _, ?_⟩
   show Res _ _ _ (fq _ _ _ _ _).toList
   rw [fL]
   exact h1.fin T.sx T.sy (.inl (by rw [Array.length_toList]; exact c1'))
  ·rw [if_neg c1]
   have c1' : ¬ j + 1 = ys.size := by simpa using c1
   have z : Aft (α := Unit) rk xs ys n st none (o.push y) i (j + 1) st := ⟨Ok.refl _, h1, hi, by omega, by omega⟩
   by_cases c2 : bc + 1 >= mg
   ·rw [if_pos c2]; exact wpS_pure z
   ·rw [if_neg c2]; exact wpS_pure ⟨rfl, z⟩
 ·rw [decide_eq_false c0, if_neg (by decide)]
  refine wpS_bind (bH f1 ?_)
  have h1 := h.tx T.sx f2 fun v hv => Nat.le_trans (Nat.le_of_not_lt c0) (fm T.sy e2 hv)
  rw [<- dR] at h1
  by_cases c1 : (i + 1 + 1 == xs.size) = true
  ·rw [if_pos c1]
   have c1' : i + 1 + 1 = xs.size := by simpa using c1
   refine wpS_pure ⟨Ok.refl _, ?_⟩
   show Res _ _ _ (jo _ _ _ _ _).toList
   rw [gF]
   exact h1.end1 T.sy (by rw [Array.length_toList]; exact c1') fun u hu => la u (by rw [<- c1']; exact hu)
  ·rw [if_neg c1]
   have c1' : ¬ i + 1 + 1 = xs.size := by simpa using c1
   have z : Aft (α := Unit) rk xs ys n st none (o.push x) (i + 1) j st := ⟨Ok.refl _, h1, by omega, hj, by omega⟩
   by_cases c2 : ac + 1 >= mg
   ·rw [if_pos c2]; exact wpS_pure z
   ·rw [if_neg c2]; exact wpS_pure ⟨rfl, z⟩
def wf (rk : Keyed -> Nat) (xs ys : Array Keyed) (n : Nat) (st : SortSt) (r : ForInStep SO) (st' : SortSt) : Prop := match r with
 | .done e => e.1 ≠ none /\ Aft (α := Unit) rk xs ys n st e.1 e.2.1 e.2.2.1 e.2.2.2.1 st'
 | .yield e => e.1 = none /\ Aft (α := Unit) rk xs ys n st e.1 e.2.1 e.2.2.1 e.2.2.2.1 st'
theorem ul (O : Ask prog w A s kd M rk) (hk : kindOf st = kd) (T : Two rk M xs.toList ys.toList) (la : ∀ u, xs.toList[xs.size - 1]? = some u -> ∀ v ∈ ys.toList, rk v <= rk u) (h : MI rk xs.toList ys.toList o.toList i j) (hi : i + 1 < xs.size) (hj : j < ys.size) (hn : n <= i + j) :
  wpS (model prog w) A E s (loB xs ys (none, o, i, j, mg)) (wf rk xs ys n st) st := by
 unfold loB
 dsimp only
 refine wpS_bind (wpS_mono (wpS_forRange (I := fun x c st' => c.1 = none /\ Ok st st' /\ MI rk xs.toList ys.toList c.2.1.toList c.2.2.1 c.2.2.2.1 /\ c.2.2.1 + 1 < xs.size /\ c.2.2.2.1 < ys.size /\ n + x <= c.2.2.1 + c.2.2.2.1)
  (Q := fun c st' => Aft (α := Unit) rk xs ys n st c.1 c.2.1 c.2.2.1 c.2.2.2.1 st') ?s1 ?f1 ⟨rfl, Ok.refl _, h, hi, hj, hn⟩) ?p1)
 case f1 =>
  rintro ⟨r, o, i, j, ac, bc⟩ st' ⟨rfl, ok, m, a1, a2, a3⟩
  dsimp only at a1 a2 a3
  omega
 case s1 =>
  rintro x ⟨r, o, i, j, ac, bc⟩ st' _ hx ⟨e, ok, m, a1, a2, a3⟩
  obtain rfl : r = none := e
  refine wpS_mono (uI (n := n + x) O (ok.kd.trans hk) T la m a1 a2 a3) fun r st2 z => ?_
  cases r with
  | done e =>
   obtain ⟨r, o, i, j, ac, bc⟩ := e
   refine ⟨ok.trans z.1, ?_⟩
   cases r with
   | some r => exact z.2
   | none => exact ⟨z.2.1, z.2.2.1, z.2.2.2.1, by have := z.2.2.2.2; dsimp only at this ⊢; omega⟩
  | yield e =>
   obtain ⟨r, o, i, j, ac, bc⟩ := e
   obtain ⟨e, ok2, z⟩ := z
   obtain rfl : r = none := e
   exact ⟨rfl, ok.trans ok2, z.1, z.2.1, z.2.2.1, by have := z.2.2.2; dsimp only at this ⊢; omega⟩
 case p1 =>
  rintro ⟨r, o, i, j, ac, bc⟩ st1 ⟨ok1, z⟩
  cases r with
  | some r => exact wpS_pure ⟨by simp, ok1, z⟩
  | none =>
   obtain ⟨m, a1, a2, a3⟩ := z
   dsimp only at m a1 a2 a3 ⊢
   refine wpS_bind (wpS_lift (wpAny_rule ⟨rfl, ?_⟩))
   refine wpS_bind (wpS_mono (wpS_forRange (I := fun x c st' => c.1 = none /\ Ok st st' /\ MI rk xs.toList ys.toList c.2.1.toList c.2.2.1 c.2.2.2.1 /\ c.2.2.1 + 1 < xs.size /\ c.2.2.2.1 < ys.size /\ n + 1 + x <= c.2.2.1 + c.2.2.2.1)
    (Q := fun c st' => Aft (α := Unit) rk xs ys n st c.1 c.2.1 c.2.2.1 c.2.2.2.1 st') ?s2 ?f2 ⟨rfl, ok1, m, a1, a2, by dsimp only; omega⟩) ?p2)
   case f2 =>
    rintro ⟨r, o, i, j, mg, ac, bc⟩ st' ⟨rfl, ok, m, a1, a2, a3⟩
    dsimp only at a1 a2 a3
    omega
   case s2 =>
    rintro x ⟨r, o, i, j, mg, ac, bc⟩ st' _ hx ⟨e, ok, m, a1, a2, a3⟩
    obtain rfl : r = none := e
    have fin : ∀ r st2, oK rk xs ys (n + 1 + x) st' r st2 -> (match r with | .done c' => Aft (α := Unit) rk xs ys n st c'.1 c'.2.1 c'.2.2.1 c'.2.2.2.1 st2 | .yield c' => c'.1 = none /\ Ok st st2 /\ MI rk xs.toList ys.toList c'.2.1.toList c'.2.2.1 c'.2.2.2.1 /\ c'.2.2.1 + 1 < xs.size /\ c'.2.2.2.1 < ys.size /\ n + 1 + (x + 1) <= c'.2.2.1 + c'.2.2.2.1) := fun r st2 z => by
     cases r with
     | done e =>
      obtain ⟨r, o, i, j, mg, ac, bc⟩ := e
      refine ⟨ok.trans z.1, ?_⟩
      cases r with
      | some r => exact z.2
      | none => exact ⟨z.2.1, z.2.2.1, z.2.2.2.1, by have := z.2.2.2.2; dsimp only at this ⊢; omega⟩
     | yield e =>
      obtain ⟨r, o, i, j, mg, ac, bc⟩ := e
      obtain ⟨e, ok2, z⟩ := z
      obtain rfl : r = none := e
      exact ⟨rfl, ok.trans ok2, z.1, z.2.1, z.2.2.1, by have := z.2.2.2; dsimp only at this ⊢; omega⟩
    dsimp only
    by_cases c : mg > 1
    ·rw [if_pos c]; exact wpS_mono (qM (n := n + 1 + x) O (ok.kd.trans hk) T la m a1 a2 a3) fun r st2 z => by have := fin r st2 z; cases r <;> exact this
    ·rw [if_neg c]; exact wpS_mono (qM (n := n + 1 + x) O (ok.kd.trans hk) T la m a1 a2 a3) fun r st2 z => by have := fin r st2 z; cases r <;> exact this
   case p2 =>
    rintro ⟨r, o, i, j, mg, ac, bc⟩ st2 ⟨ok2, z⟩
    cases r with
    | some r => exact wpS_pure ⟨by simp, ok2, z⟩
    | none =>
     dsimp only
     rw [gB]
     exact wpS_bind (wpS_modify (wpS_pure ⟨rfl, ok2.trans ⟨rfl, rfl, rfl, rfl⟩, z⟩))
theorem ur {Q : Array Keyed -> SortSt -> Prop} (O : Ask prog w A s kd M rk) (hk : kindOf st = kd) (T : Two rk M xs.toList ys.toList) (la : ∀ u, xs.toList[xs.size - 1]? = some u -> ∀ v ∈ ys.toList, rk v <= rk u) (h0 : ∀ u, ys.toList[0]? = some u -> ∀ v ∈ xs.toList, rk u <= rk v)
  (q : ∀ r st', Ok st st' -> Res rk xs.toList ys.toList r.toList -> Q r st') : wpS (model prog w) A E s (mLo xs ys) Q st := by
 rw [uV]
 refine wpS_bind (wpS_lift (wpAny_rule ⟨rfl, ?_⟩))
 have lx : 0 < xs.size := by have := List.length_pos_iff.mpr T.nx; rwa [Array.length_toList] at this
 have ly : 0 < ys.size := by have := List.length_pos_iff.mpr T.ny; rwa [Array.length_toList] at this
 obtain ⟨y, e1, e2⟩ := aO (a := ys) (k := 0) ly
 refine wpS_bind (bH e1 ?_)
 have ed := bX e2
 rw [List.drop_zero] at ed
 have m : MI rk xs.toList ys.toList (#[y] : Array Keyed).toList 0 1 := by
  refine ⟨?_, List.pairwise_singleton _ _, fun u hu v hv => ?_, fun u hu v hv => ?_⟩
  ·rw [bW e2]; simp
  ·rw [List.mem_singleton.mp hu]; exact h0 y e2 v (by simpa using hv)
  ·rw [List.mem_singleton.mp hu]
   have p := T.sy
   rw [ed] at p
   exact (List.pairwise_cons.mp p).1 v hv
 by_cases c1 : (1 == ys.size) = true
 ·rw [if_pos c1]
  have c1' : 1 = ys.size := by simpa using c1
  refine wpS_pure (q _ _ (Ok.refl _) ?_)
  rw [fL]
  exact m.fin T.sx T.sy (.inl (by rw [Array.length_toList]; exact c1'))
 ·rw [if_neg c1]
  have c1' : ¬ 1 = ys.size := by simpa using c1
  by_cases c2 : (0 + 1 == xs.size) = true
  ·rw [if_pos c2]
   have c2' : 0 + 1 = xs.size := by simpa using c2
   refine wpS_pure (q _ _ (Ok.refl _) ?_)
   rw [gF]
   exact m.end1 T.sy (by rw [Array.length_toList]; exact c2') fun u hu => la u (by rw [<- c2']; exact hu)
  ·rw [if_neg c2]
   have c2' : ¬ 0 + 1 = xs.size := by simpa using c2
   refine wpS_bind (wpS_get ?_)
   refine wpS_bind (wpS_mono (wpS_forRange (I := fun x c st' => c.1 = none /\ Ok st st' /\ MI rk xs.toList ys.toList c.2.1.toList c.2.2.1 c.2.2.2.1 /\ c.2.2.1 + 1 < xs.size /\ c.2.2.2.1 < ys.size /\ 1 + x <= c.2.2.1 + c.2.2.2.1)
    (Q := fun c st' => ∃ r, c.1 = some r /\ Ok st st' /\ Res rk xs.toList ys.toList r.toList) ?s1 ?f1 ⟨rfl, Ok.refl _, m, by dsimp only; omega, by dsimp only; omega, by dsimp only; omega⟩) ?p1)
   case f1 =>
    rintro ⟨r, o, i, j, mg⟩ st' ⟨rfl, ok, m, a1, a2, a3⟩
    dsimp only at a1 a2 a3
    omega
   case s1 =>
    rintro x ⟨r, o, i, j, mg⟩ st' _ hx ⟨e, ok, m, a1, a2, a3⟩
    obtain rfl : r = none := e
    refine wpS_mono (ul (n := 1 + x) O (ok.kd.trans hk) T la m a1 a2 a3) fun r st2 z => ?_
    cases r with
    | done e =>
     obtain ⟨r, o, i, j, mg⟩ := e
     obtain ⟨ne, ok2, z⟩ := z
     cases r with
     | some r => exact ⟨r, rfl, ok.trans ok2, z⟩
     | none => exact absurd rfl ne
    | yield e =>
     obtain ⟨r, o, i, j, mg⟩ := e
     obtain ⟨e, ok2, z⟩ := z
     obtain rfl : r = none := e
     exact ⟨rfl, ok.trans ok2, z.1, z.2.1, z.2.2.1, by have := z.2.2.2; dsimp only at this ⊢; omega⟩
   case p1 =>
    rintro ⟨r, o, i, j, mg⟩ st' ⟨r', e, ok, z⟩
    obtain rfl : r = some r' := e
    exact wpS_pure (q _ _ ok z)
end
end L2.TS
namespace L2.TS
open PySem PySem.Spec PyProof.Rows
structure MH (rk : Keyed -> Nat) (xs ys t : List Keyed) (i j : Nat) : Prop where
 pm : t.Perm (xs.drop i ++ ys.drop j)
 so : Up rk t
 bx : ∀ u ∈ t, ∀ v ∈ xs.take i, rk v <= rk u
 by_ : ∀ u ∈ t, ∀ v ∈ ys.take j, rk v <= rk u
section
variable {rk : Keyed -> Nat} {M : Keyed -> Prop} {xs ys t : List Keyed} {i j : Nat}
theorem MH.tx {u : Keyed} (h : MH rk xs ys t (i + 1) j) (T : Up rk xs) (hu : xs[i]? = some u) (le : ∀ v ∈ ys.take j, rk v <= rk u) : MH rk xs ys (u :: t) i j := by
 have e := bW hu
 refine ⟨?_, List.pairwise_cons.mpr ⟨fun a ha => h.bx a ha u (by rw [e]; exact List.mem_append_right _ (List.mem_singleton.mpr rfl)), h.so⟩, fun a ha v hv => ?_, fun a ha v hv => ?_⟩
 ·rw [bX hu]
  exact List.Perm.cons u h.pm
 ·rcases List.mem_cons.mp ha with rfl | ha
  ·have p : Up rk (xs.take (i + 1)) := T.sublist (List.take_sublist _ _)
   rw [e] at p
   exact (List.pairwise_append.mp p).2.2 v hv a (List.mem_singleton.mpr rfl)
  ·exact h.bx a ha v (by rw [e]; exact List.mem_append_left _ hv)
 ·rcases List.mem_cons.mp ha with rfl | ha
  ·exact le v hv
  ·exact h.by_ a ha v hv
theorem MH.swap (h : MH rk xs ys t i j) : MH rk ys xs t j i := ⟨h.pm.trans List.perm_append_comm, h.so, h.by_, h.bx⟩
theorem MH.gx (T : Up rk xs) : ∀ (k : Nat) (t : List Keyed), MH rk xs ys t (i + k) j -> i + k <= xs.length -> (∀ m u, i <= m -> m < i + k -> xs[m]? = some u -> ∀ v ∈ ys.take j, rk v <= rk u) -> MH rk xs ys ((xs.drop i).take k ++ t) i j
 | 0, t, h, _, _ => by rw [List.take_zero, List.nil_append]; exact h
 | k + 1, t, h, hl, le => by
  have hc : xs[i + k]? = some xs[i + k] := List.getElem?_eq_getElem (by omega)
  have e : (xs.drop i)[k]? = some xs[i + k] := by rw [List.getElem?_drop]; exact hc
  rw [bW e, List.append_assoc]
  exact MH.gx T k _ (h.tx T hc (le _ _ (by omega) (by omega) hc)) (by omega) fun m u h1 h2 => le m u h1 (by omega)
theorem MH.gy (T : Up rk ys) (k : Nat) (h : MH rk xs ys t i (j + k)) (hl : j + k <= ys.length) (le : ∀ m u, j <= m -> m < j + k -> ys[m]? = some u -> ∀ v ∈ xs.take i, rk v <= rk u) : MH rk xs ys ((ys.drop j).take k ++ t) i j := (MH.gx T k t h.swap hl le).swap
theorem MH.end2 (h : MH rk xs ys t i j) {r : List Keyed} (hr : r.Perm (xs.take i ++ ys.take j)) (up : Up rk r) : Res rk xs ys (r ++ t) := by
 refine ⟨?_, List.pairwise_append.mpr ⟨up, h.so, fun a ha b hb => ?_⟩⟩
 ·refine (hr.append h.pm).trans ?_
  conv => rhs; rw [<- jA xs i, <- jA ys j]
  rw [List.append_assoc, List.append_assoc]
  refine List.Perm.append_left _ ?_
  rw [<- List.append_assoc, <- List.append_assoc]
  exact List.Perm.append_right _ List.perm_append_comm
 ·rcases List.mem_append.mp (hr.mem_iff.mp ha) with ha | ha
  ·exact h.bx b hb a ha
  ·exact h.by_ b hb a ha
theorem MH.fin (h : MH rk xs ys t i j) (sx : Up rk xs) (sy : Up rk ys) (e : i = 0 \/ j = 0) : Res rk xs ys (xs.take i ++ ys.take j ++ t) := by
 refine h.end2 (List.Perm.refl _) ?_
 rcases e with rfl | rfl
 ·rw [List.take_zero, List.nil_append]; exact sy.sublist (List.take_sublist _ _)
 ·rw [List.take_zero, List.append_nil]; exact sx.sublist (List.take_sublist _ _)
theorem MH.fst (h : MH rk xs ys t i 1) (sx : Up rk xs) (h0 : ∀ u, ys[0]? = some u -> ∀ v ∈ xs, rk u <= rk v) : Res rk xs ys (ys.take 1 ++ xs.take i ++ t) := by
 refine h.end2 List.perm_append_comm (List.pairwise_append.mpr ⟨?_, sx.sublist (List.take_sublist _ _), fun a ha b hb => ?_⟩)
 ·cases ys with
  | nil => exact List.Pairwise.nil
  | cons y ys => exact List.pairwise_singleton _ _
 ·cases ys with
  | nil => cases ha
  | cons y ys =>
   rw [show (y :: ys).take 1 = [y] from rfl] at ha
   rw [List.mem_singleton.mp ha]
   exact h0 y rfl b (List.mem_of_mem_take hb)
theorem rL {l : List Keyed} (h : Up rk l) {i : Nat} {u v : Keyed} (hu : l[i]? = some u) (hv : v ∈ l.take (i + 1)) : rk v <= rk u := by
 obtain ⟨k, hk⟩ := List.mem_iff_getElem?.mp hv
 have hl := (List.getElem?_eq_some_iff.mp hk).1
 rw [List.length_take] at hl
 rw [List.getElem?_take, if_pos (by omega)] at hk
 exact eh h (by omega) hk hu
end
def fP (xs ys o : Array Keyed) (i j : Nat) : Array Keyed := xs.extract 0 i ++ ys.extract 0 j ++ o.reverse
def jw (xs ys o : Array Keyed) (i j : Nat) : Array Keyed := ys.extract 0 j ++ xs.extract 0 i ++ o.reverse
abbrev HG : Type := Option (Array Keyed) × Nat × Nat × Array Keyed × Nat × Nat × Nat
abbrev HI : Type := Option (Array Keyed) × Nat × Nat × Array Keyed × Nat × Nat
abbrev HQ : Type := Option (Array Keyed) × Nat × Nat × Array Keyed × Nat
def hi3 (xs ys o : Array Keyed) (i j mg ac bc : Nat) : StateT SortSt Sem (ForInStep HG) := do
 let x <- elem' xs (i - 1)
 if (i - 1 == 0) = true then pure (.done (some (fP xs ys (o.push x) (i - 1) j), i - 1, j, o.push x, mg, ac, bc))
 else if (decide (ac < 7) && decide (bc < 7)) = true then pure (.done (none, i - 1, j, o.push x, mg, ac, bc))
 else pure (.yield (none, i - 1, j, o.push x, mg, ac, bc))
def hi2 (xs ys o : Array Keyed) (i j mg ac bc : Nat) : StateT SortSt Sem (ForInStep HG) := do
 let y <- elem' ys (j - 1)
 if (j - 1 == 1) = true then pure (.done (some (jw xs ys (o.push y) i (j - 1)), i, j - 1, o.push y, mg, ac, bc))
 else do
  let x <- elem' xs (i - 1)
  match <- gal true x ys 0 (j - 1) (j - 1 - 1) with
  | some p =>
   if j - 1 - p > 0 then
    if (p == 1) = true then pure (.done (some (jw xs ys (o.push y ++ (ys.extract p (j - 1)).reverse) i p), i, p, o.push y ++ (ys.extract p (j - 1)).reverse, mg, ac, j - 1 - p))
    else if (p == 0) = true then pure (.done (some (fP xs ys (o.push y ++ (ys.extract p (j - 1)).reverse) i p), i, p, o.push y ++ (ys.extract p (j - 1)).reverse, mg, ac, j - 1 - p))
    else hi3 xs ys (o.push y ++ (ys.extract p (j - 1)).reverse) i p mg ac (j - 1 - p)
   else hi3 xs ys (o.push y) i (j - 1) mg ac (j - 1 - p)
  | _ => pure (.done (some (fP xs ys (o.push y) i (j - 1)), i, j - 1, o.push y, mg, ac, bc))
def hi1 (xs ys o : Array Keyed) (i j mg ac bc : Nat) : StateT SortSt Sem (ForInStep HG) := do
 kh mg
 let y <- elem' ys (j - 1)
 match <- gal false y xs 0 i (i - 1) with
 | some p =>
  if i - p > 0 then
   if (p == 0) = true then pure (.done (some (fP xs ys (o ++ (xs.extract p i).reverse) p j), p, j, o ++ (xs.extract p i).reverse, mg, i - p, bc))
   else hi2 xs ys (o ++ (xs.extract p i).reverse) p j mg (i - p) bc
  else hi2 xs ys o i j mg (i - p) bc
 | _ => pure (.done (some (fP xs ys o i j), i, j, o, mg, ac, bc))
def hiA (xs ys : Array Keyed) (mg : Nat) (c : HI) : StateT SortSt Sem (ForInStep HI) := do
 let y <- elem' ys (c.2.2.1 - 1)
 let x <- elem' xs (c.2.1 - 1)
 match <- lt' y x with
 | some xw =>
  if xw = true then do
   let x <- elem' xs (c.2.1 - 1)
   if (c.2.1 - 1 == 0) = true then pure (.done (some (fP xs ys (c.2.2.2.1.push x) (c.2.1 - 1) c.2.2.1), c.2.1 - 1, c.2.2.1, c.2.2.2.1.push x, c.2.2.2.2.1 + 1, 0))
   else if c.2.2.2.2.1 + 1 >= mg then pure (.done (none, c.2.1 - 1, c.2.2.1, c.2.2.2.1.push x, c.2.2.2.2.1 + 1, 0))
   else pure (.yield (none, c.2.1 - 1, c.2.2.1, c.2.2.2.1.push x, c.2.2.2.2.1 + 1, 0))
  else do
   let y <- elem' ys (c.2.2.1 - 1)
   if (c.2.2.1 - 1 == 1) = true then pure (.done (some (jw xs ys (c.2.2.2.1.push y) c.2.1 (c.2.2.1 - 1)), c.2.1, c.2.2.1 - 1, c.2.2.2.1.push y, 0, c.2.2.2.2.2 + 1))
   else if c.2.2.2.2.2 + 1 >= mg then pure (.done (none, c.2.1, c.2.2.1 - 1, c.2.2.2.1.push y, 0, c.2.2.2.2.2 + 1))
   else pure (.yield (none, c.2.1, c.2.2.1 - 1, c.2.2.2.1.push y, 0, c.2.2.2.2.2 + 1))
 | _ => pure (.done (some (fP xs ys c.2.2.2.1 c.2.1 c.2.2.1), c.2.1, c.2.2.1, c.2.2.2.1, c.2.2.2.2.1, c.2.2.2.2.2))
def hiB (xs ys : Array Keyed) (d : HQ) : StateT SortSt Sem (ForInStep HQ) := do
 let c <- forIn [0:xs.size + ys.size] ((none, d.2.1, d.2.2.1, d.2.2.2.1, 0, 0) : HI) fun _ c => hiA xs ys d.2.2.2.2 c
 match c.1 with
 | some r => pure (.done (some r, c.2.1, c.2.2.1, c.2.2.2.1, d.2.2.2.2))
 | none => do
  rule "list.sort.gallop"
  let e <- forIn [0:xs.size + ys.size] ((none, c.2.1, c.2.2.1, c.2.2.2.1, d.2.2.2.2 + 1, c.2.2.2.2.1, c.2.2.2.2.2) : HG) fun _ e =>
   if e.2.2.2.2.1 > 1 then hi1 xs ys e.2.2.2.1 e.2.1 e.2.2.1 (e.2.2.2.2.1 - 1) e.2.2.2.2.2.1 e.2.2.2.2.2.2
   else hi1 xs ys e.2.2.2.1 e.2.1 e.2.2.1 e.2.2.2.2.1 e.2.2.2.2.2.1 e.2.2.2.2.2.2
  match e.1 with
  | some r => pure (.done (some r, e.2.1, e.2.2.1, e.2.2.2.1, e.2.2.2.2.1))
  | none => do
   kh (e.2.2.2.2.1 + 1)
   pure (.yield (none, e.2.1, e.2.2.1, e.2.2.2.1, e.2.2.2.2.1 + 1))
theorem sh (xs ys : Array Keyed) : mHi xs ys = (do
  rule "list.sort.merge-hi"
  let all := xs.size + ys.size
  let fin (o : Array Keyed) (i j : Nat) := xs.extract 0 i ++ ys.extract 0 j ++ o.reverse
  let fst (o : Array Keyed) (i j : Nat) := ys.extract 0 j ++ xs.extract 0 i ++ o.reverse
  let mut i := xs.size - 1
  let mut j := ys.size
  let mut o : Array Keyed := #[<- elem' xs i]
  if i == 0 then return fin o i j
  if j == 1 then return fst o i j
  let mut mg := gallopOf (<- get)
  for _ in [0:all] do
   let mut ac := 0
   let mut bc := 0
   for _ in [0:all] do
    let some xw <- lt' (<- elem' ys (j - 1)) (<- elem' xs (i - 1)) | return fin o i j
    if xw then
     i := i - 1; o := o.push (<- elem' xs i); ac := ac + 1; bc := 0
     if i == 0 then return fin o i j
     if ac >= mg then break
    else
     j := j - 1; o := o.push (<- elem' ys j); bc := bc + 1; ac := 0
     if j == 1 then return fst o i j
     if bc >= mg then break
   rule "list.sort.gallop"
   mg := mg + 1
   for _ in [0:all] do
    if mg > 1 then mg := mg - 1
    kh mg
    let some p <- gal false (<- elem' ys (j - 1)) xs 0 i (i - 1) | return fin o i j
    let k := i - p
    ac := k
    if k > 0 then
     o := o ++ (xs.extract p i).reverse; i := p
     if i == 0 then return fin o i j
    j := j - 1; o := o.push (<- elem' ys j)
    if j == 1 then return fst o i j
    let some p <- gal true (<- elem' xs (i - 1)) ys 0 j (j - 1) | return fin o i j
    let k := j - p
    bc := k
    if k > 0 then
     o := o ++ (ys.extract p j).reverse; j := p
     if j == 1 then return fst o i j
     if j == 0 then return fin o i j
    i := i - 1; o := o.push (<- elem' xs i)
    if i == 0 then return fin o i j
    if ac < 7 && bc < 7 then break
   mg := mg + 1
   kh mg
  unsupported "internal:list.sort.merge-bound") := rfl
theorem tY (xs ys : Array Keyed) : mHi xs ys = (do
  rule "list.sort.merge-hi"
  let x <- elem' xs (xs.size - 1)
  if (xs.size - 1 == 0) = true then pure (fP xs ys #[x] (xs.size - 1) ys.size)
  else if (ys.size == 1) = true then pure (jw xs ys #[x] (xs.size - 1) ys.size)
  else do
   let g <- get
   let d <- forIn [0:xs.size + ys.size] ((none, xs.size - 1, ys.size, #[x], gallopOf g) : HQ) fun _ d => hiB xs ys d
   match d.1 with
   | some r => pure r
   | none => unsupported "internal:list.sort.merge-bound") := by
 rw [sh]
 refine bind_congr fun _ => ?_
 refine bind_congr fun y => ?_
 refine ite_congr rfl (fun _ => rfl) fun _ => ?_
 refine ite_congr rfl (fun _ => rfl) fun _ => ?_
 refine bind_congr fun g => ?_
 refine bL (fun x d => ?_) (fun d => by obtain ⟨r, d⟩ := d; cases r <;> rfl)
 unfold hiB
 refine bL (fun x c => rfl) (fun c => ?_)
 obtain ⟨r, i, j, o, ac, bc⟩ := c
 cases r with
 | some r => rfl
 | none =>
  refine bind_congr fun _ => ?_
  refine bL (fun x e => ?_) (fun d => ?_)
  ·refine ite_congr rfl (fun _ => ?_) fun _ => ?_
   ·unfold hi1
    refine bind_congr fun _ => ?_
    refine bind_congr fun y => ?_
    refine bind_congr fun c => ?_
    cases c with
    | none => rfl
    | some c =>
     refine ite_congr rfl (fun _ => ?_) fun _ => ?_
     ·refine ite_congr rfl (fun _ => rfl) fun _ => ?_
      unfold hi2
      rfl
     ·rfl
   ·rfl
  ·obtain ⟨r, d⟩ := d; cases r <;> rfl
def AfH (rk : Keyed -> Nat) (xs ys : Array Keyed) (n : Nat) (st : SortSt) (r : Option (Array Keyed)) (o : Array Keyed) (i j : Nat) (st' : SortSt) : Prop :=
 Ok st st' /\ match r with
  | some r => Res rk xs.toList ys.toList r.toList
  | none => MH rk xs.toList ys.toList o.toList.reverse i j /\ 1 <= i /\ 2 <= j /\ i <= xs.size /\ j <= ys.size /\ i + j < n
def pz (rk : Keyed -> Nat) (xs ys : Array Keyed) (n : Nat) (st : SortSt) (r : ForInStep HG) (st' : SortSt) : Prop := match r with
 | .done e => AfH rk xs ys n st e.1 e.2.2.2.1 e.2.1 e.2.2.1 st'
 | .yield e => e.1 = none /\ AfH rk xs ys n st e.1 e.2.2.2.1 e.2.1 e.2.2.1 st'
section
variable {prog : Program} {w : World} {A : Around} {E : Value -> Shared -> Prop} {s : Shared} {kd : SortKind} {M : Keyed -> Prop} {rk : Keyed -> Nat} {xs ys o : Array Keyed} {i j mg ac bc n : Nat} {st : SortSt}
theorem fi {u : Keyed} : (o.push u).toList.reverse = u :: o.toList.reverse := by rw [dR, List.reverse_append]; rfl
theorem qL {k : Nat} : (o ++ (xs.extract i k).reverse).toList.reverse = (xs.toList.drop i).take (k - i) ++ o.toList.reverse := by rw [Array.toList_append, List.reverse_append, Array.toList_reverse, List.reverse_reverse, gg]
theorem ex0 {k : Nat} : (xs.extract 0 k).toList = xs.toList.take k := by rw [gg, List.drop_zero, Nat.sub_zero]
theorem dZ : (fP xs ys o i j).toList = xs.toList.take i ++ ys.toList.take j ++ o.toList.reverse := by unfold fP; rw [Array.toList_append, Array.toList_append, ex0, ex0, Array.toList_reverse]
theorem fD : (jw xs ys o i j).toList = ys.toList.take j ++ xs.toList.take i ++ o.toList.reverse := by unfold jw; rw [Array.toList_append, Array.toList_append, ex0, ex0, Array.toList_reverse]
theorem MH.pred_x {t : List Keyed} {xs ys : List Keyed} {u : Keyed} (h : MH rk xs ys t i j) (h1 : 1 <= i) (T : Up rk xs) (hu : xs[i - 1]? = some u) (le : ∀ v ∈ ys.take j, rk v <= rk u) : MH rk xs ys (u :: t) (i - 1) j := by
 obtain ⟨k, rfl⟩ : ∃ k, i = k + 1 := ⟨i - 1, by omega⟩
 exact h.tx T hu le
theorem MH.pred_y {t : List Keyed} {xs ys : List Keyed} {u : Keyed} (h : MH rk xs ys t i j) (h1 : 1 <= j) (T : Up rk ys) (hu : ys[j - 1]? = some u) (le : ∀ v ∈ xs.take i, rk v <= rk u) : MH rk xs ys (u :: t) i (j - 1) := (h.swap.pred_x h1 T hu le).swap
theorem fO {l : List Keyed} {k : Nat} (h : Up rk l) {u v : Keyed} (h1 : 1 <= k) (hu : l[k - 1]? = some u) (hv : v ∈ l.take k) : rk v <= rk u := by
 obtain ⟨m, rfl⟩ : ∃ m, k = m + 1 := ⟨k - 1, by omega⟩
 exact rL h hu hv
theorem qO (T : Two rk M xs.toList ys.toList) (h : MH rk xs.toList ys.toList o.toList.reverse i j) (h1 : 1 <= i) (h2 : 2 <= j) (hi : i <= xs.size) (hj : j <= ys.size) (hn : i + j <= n)
  (le : ∀ u, xs.toList[i - 1]? = some u -> ∀ v ∈ ys.toList.take j, rk v <= rk u) : wpS (model prog w) A E s (hi3 xs ys o i j mg ac bc) (pz rk xs ys n st) st := by
 unfold hi3
 obtain ⟨x, e1, e2⟩ := aO (a := xs) (k := i - 1) (by omega)
 refine wpS_bind (bH e1 ?_)
 have m := h.pred_x h1 T.sx e2 (le x e2)
 rw [<- fi] at m
 by_cases c1 : (i - 1 == 0) = true
 ·rw [if_pos c1]
  have c1' : i - 1 = 0 := by simpa using c1
  refine wpS_pure ⟨Ok.refl _, ?_⟩
  show Res _ _ _ (fP _ _ _ _ _).toList
  rw [dZ]
  exact m.fin T.sx T.sy (.inl c1')
 ·rw [if_neg c1]
  have c1' : ¬ i - 1 = 0 := by simpa using c1
  have z : AfH rk xs ys n st none (o.push x) (i - 1) j st := ⟨Ok.refl _, m, by omega, h2, by omega, hj, by omega⟩
  by_cases c2 : (decide (ac < 7) && decide (bc < 7)) = true
  ·rw [if_pos c2]; exact wpS_pure z
  ·rw [if_neg c2]; exact wpS_pure ⟨rfl, z⟩
theorem qq (O : Ask prog w A s kd M rk) (hk : kindOf st = kd) (T : Two rk M xs.toList ys.toList) (h0 : ∀ u, ys.toList[0]? = some u -> ∀ v ∈ xs.toList, rk u <= rk v) (h : MH rk xs.toList ys.toList o.toList.reverse i j) (h1 : 1 <= i) (h2 : 2 <= j) (hi : i <= xs.size) (hj : j <= ys.size) (hn : i + j <= n)
  (le : ∀ u, ys.toList[j - 1]? = some u -> ∀ v ∈ xs.toList.take i, rk v <= rk u) : wpS (model prog w) A E s (hi2 xs ys o i j mg ac bc) (pz rk xs ys n st) st := by
 unfold hi2
 obtain ⟨y, e1, e2⟩ := aO (a := ys) (k := j - 1) (by omega)
 refine wpS_bind (bH e1 ?_)
 have m := h.pred_y (by omega) T.sy e2 (le y e2)
 rw [<- fi] at m
 by_cases c1 : (j - 1 == 1) = true
 ·rw [if_pos c1]
  have c1' : j - 1 = 1 := by simpa using c1
  refine wpS_pure ⟨Ok.refl _, ?_⟩
  show Res _ _ _ (jw _ _ _ _ _).toList
  rw [fD, c1']
  rw [c1'] at m
  exact m.fst T.sx h0
 ·rw [if_neg c1]
  have c1' : ¬ j - 1 = 1 := by simpa using c1
  obtain ⟨x, f1, f2⟩ := aO (a := xs) (k := i - 1) (by omega)
  refine wpS_bind (bH f1 ?_)
  refine wpS_bind (fR O hk (T.mx x (List.mem_of_getElem? f2)) (fun k hk' => ?_) (fun a b hab hb => ?_) (by omega) fun p hp lo hi' => ?_)
  ·obtain ⟨u, g1, g2⟩ := aO (a := ys) (k := 0 + k) (by omega)
   exact ⟨u, g1, T.my u (List.mem_of_getElem? g2)⟩
  ·obtain ⟨u, g1, g2⟩ := aO (a := ys) (k := 0 + a) (by omega)
   obtain ⟨v, k1, k2⟩ := aO (a := ys) (k := 0 + b) (by omega)
   rw [bT g1, bT k1]
   exact eh T.sy (by omega) g2 k2
  dsimp only
  have bl : ∀ v ∈ ys.toList.take p, rk v <= rk x := fun v hv => by
   obtain ⟨k, hk'⟩ := List.mem_iff_getElem?.mp hv
   have hl := (List.getElem?_eq_some_iff.mp hk').1
   rw [List.length_take] at hl
   rw [List.getElem?_take, if_pos (by omega)] at hk'
   have := lo k (by omega)
   rw [bT (x := v) (by rw [bU, Nat.zero_add]; exact hk')] at this
   exact Nat.le_of_lt (of_decide_eq_true this)
  have ab : ∀ m u, p <= m -> m < j - 1 -> ys.toList[m]? = some u -> rk x <= rk u := fun m u a1 a2 hu => by
   have := hi' m a1 a2
   rw [bT (x := u) (by rw [bU, Nat.zero_add]; exact hu)] at this
   have := of_decide_eq_false this
   omega
  have ej : p + (j - 1 - p) = j - 1 := by omega
  have m2 : MH rk xs.toList ys.toList (o.push y ++ (ys.extract p (j - 1)).reverse).toList.reverse i p := by
   rw [qL]
   exact MH.gy T.sy (j - 1 - p) (by rw [ej]; exact m) (by rw [Array.length_toList]; omega) fun m' u a1 a2 hu v hv => Nat.le_trans (fO T.sx h1 f2 hv) (ab m' u a1 (by omega) hu)
  by_cases c2 : j - 1 - p > 0
  ·rw [if_pos c2]
   by_cases c3 : (p == 1) = true
   ·rw [if_pos c3]
    have c3' : p = 1 := by simpa using c3
    subst c3'
    refine wpS_pure ⟨Ok.refl _, ?_⟩
    show Res _ _ _ (jw _ _ _ _ _).toList
    rw [fD]
    exact m2.fst T.sx h0
   ·rw [if_neg c3]
    have c3' : ¬ p = 1 := by simpa using c3
    by_cases c4 : (p == 0) = true
    ·rw [if_pos c4]
     have c4' : p = 0 := by simpa using c4
     refine wpS_pure ⟨Ok.refl _, ?_⟩
     show Res _ _ _ (fP _ _ _ _ _).toList
     rw [dZ]
     exact m2.fin T.sx T.sy (.inr c4')
    ·rw [if_neg c4]
     have c4' : ¬ p = 0 := by simpa using c4
     exact qO T m2 h1 (by omega) hi (by omega) (by omega) fun u hu v hv => by rw [f2] at hu; cases hu; exact bl v hv
  ·rw [if_neg c2]
   have c0 : p = j - 1 := by omega
   subst c0
   exact qO T m h1 (by omega) hi (by omega) (by omega) fun u hu v hv => by rw [f2] at hu; cases hu; exact bl v hv
theorem qg (O : Ask prog w A s kd M rk) (hk : kindOf st = kd) (T : Two rk M xs.toList ys.toList) (h0 : ∀ u, ys.toList[0]? = some u -> ∀ v ∈ xs.toList, rk u <= rk v) (h : MH rk xs.toList ys.toList o.toList.reverse i j) (h1 : 1 <= i) (h2 : 2 <= j) (hi : i <= xs.size) (hj : j <= ys.size) (hn : i + j <= n) :
  wpS (model prog w) A E s (hi1 xs ys o i j mg ac bc) (pz rk xs ys n st) st := by
 unfold hi1
 rw [gB]
 refine wpS_bind (wpS_modify ?_)
 generalize hst : SortSt.mk' (kindOf st) (arrOf st) (pendingOf st) mg (failedOf st) = st1
 have ok1 : Ok st st1 := by rw [<- hst]; exact ⟨rfl, rfl, rfl, rfl⟩
 have hk1 : kindOf st1 = kd := ok1.kd.trans hk
 obtain ⟨y, e1, e2⟩ := aO (a := ys) (k := j - 1) (by omega)
 refine wpS_bind (bH e1 ?_)
 have lift : ∀ r st', pz rk xs ys n st1 r st' -> pz rk xs ys n st r st' := fun r st' z => by
  cases r with
  | done e => exact ⟨ok1.trans z.1, z.2⟩
  | yield e => exact ⟨z.1, ok1.trans z.2.1, z.2.2⟩
 refine wpS_bind (fR O hk1 (T.my y (List.mem_of_getElem? e2)) (fun k hk' => ?_) (fun a b hab hb => ?_) (by omega) fun p hp lo hi' => ?_)
 ·obtain ⟨u, g1, g2⟩ := aO (a := xs) (k := 0 + k) (by omega)
  exact ⟨u, g1, T.mx u (List.mem_of_getElem? g2)⟩
 ·obtain ⟨u, g1, g2⟩ := aO (a := xs) (k := 0 + a) (by omega)
  obtain ⟨v, k1, k2⟩ := aO (a := xs) (k := 0 + b) (by omega)
  rw [bT g1, bT k1]
  exact eh T.sx (by omega) g2 k2
 dsimp only
 have bl : ∀ v ∈ xs.toList.take p, rk v <= rk y := fun v hv => by
  obtain ⟨k, hk'⟩ := List.mem_iff_getElem?.mp hv
  have hl := (List.getElem?_eq_some_iff.mp hk').1
  rw [List.length_take] at hl
  rw [List.getElem?_take, if_pos (by omega)] at hk'
  have := lo k (by omega)
  rw [bT (x := v) (by rw [bU, Nat.zero_add]; exact hk')] at this
  exact of_decide_eq_true this
 have ab : ∀ m u, p <= m -> m < i -> xs.toList[m]? = some u -> rk y <= rk u := fun m u a1 a2 hu => by
  have := hi' m a1 a2
  rw [bT (x := u) (by rw [bU, Nat.zero_add]; exact hu)] at this
  have := of_decide_eq_false this
  omega
 have ei : p + (i - p) = i := by omega
 have m2 : MH rk xs.toList ys.toList (o ++ (xs.extract p i).reverse).toList.reverse p j := by
  rw [qL]
  exact MH.gx T.sx (i - p) _ (by rw [ei]; exact h) (by rw [Array.length_toList]; omega) fun m' u a1 a2 hu v hv => Nat.le_trans (fO T.sy (by omega) e2 hv) (ab m' u a1 (by omega) hu)
 by_cases c2 : i - p > 0
 ·rw [if_pos c2]
  by_cases c3 : (p == 0) = true
  ·rw [if_pos c3]
   have c3' : p = 0 := by simpa using c3
   refine wpS_pure ⟨ok1, ?_⟩
   show Res _ _ _ (fP _ _ _ _ _).toList
   rw [dZ]
   exact m2.fin T.sx T.sy (.inl c3')
  ·rw [if_neg c3]
   have c3' : ¬ p = 0 := by simpa using c3
   exact wpS_mono (qq O hk1 T h0 m2 (by omega) h2 (by omega) hj (by omega) fun u hu v hv => by rw [e2] at hu; cases hu; exact bl v hv) lift
 ·rw [if_neg c2]
  have c0 : p = i := by omega
  subst c0
  exact wpS_mono (qq O hk1 T h0 h h1 h2 hi hj hn fun u hu v hv => by rw [e2] at hu; cases hu; exact bl v hv) lift
def wD (rk : Keyed -> Nat) (xs ys : Array Keyed) (n : Nat) (st : SortSt) (r : ForInStep HI) (st' : SortSt) : Prop := match r with
 | .done e => AfH rk xs ys n st e.1 e.2.2.2.1 e.2.1 e.2.2.1 st'
 | .yield e => e.1 = none /\ AfH rk xs ys n st e.1 e.2.2.2.1 e.2.1 e.2.2.1 st'
theorem uJ (O : Ask prog w A s kd M rk) (hk : kindOf st = kd) (T : Two rk M xs.toList ys.toList) (h0 : ∀ u, ys.toList[0]? = some u -> ∀ v ∈ xs.toList, rk u <= rk v) (h : MH rk xs.toList ys.toList o.toList.reverse i j) (h1 : 1 <= i) (h2 : 2 <= j) (hi : i <= xs.size) (hj : j <= ys.size) (hn : i + j <= n) :
  wpS (model prog w) A E s (hiA xs ys mg (none, i, j, o, ac, bc)) (wD rk xs ys n st) st := by
 unfold hiA
 dsimp only
 obtain ⟨y, e1, e2⟩ := aO (a := ys) (k := j - 1) (by omega)
 obtain ⟨x, f1, f2⟩ := aO (a := xs) (k := i - 1) (by omega)
 refine wpS_bind (bH e1 (wpS_bind (bH f1 (wpS_bind (kA O hk (T.my y (List.mem_of_getElem? e2)) (T.mx x (List.mem_of_getElem? f2)) ?_)))))
 dsimp only
 by_cases c0 : rk y < rk x
 ·rw [decide_eq_true c0, if_pos rfl]
  refine wpS_bind (bH f1 ?_)
  have m := h.pred_x h1 T.sx f2 fun v hv => Nat.le_trans (fO T.sy (by omega) e2 hv) (Nat.le_of_lt c0)
  rw [<- fi] at m
  by_cases c1 : (i - 1 == 0) = true
  ·rw [if_pos c1]
   have c1' : i - 1 = 0 := by simpa using c1
   refine wpS_pure ⟨Ok.refl _, ?_⟩
   show Res _ _ _ (fP _ _ _ _ _).toList
   rw [dZ]
   exact m.fin T.sx T.sy (.inl c1')
  ·rw [if_neg c1]
   have c1' : ¬ i - 1 = 0 := by simpa using c1
   have z : AfH rk xs ys n st none (o.push x) (i - 1) j st := ⟨Ok.refl _, m, by omega, h2, by omega, hj, by omega⟩
   by_cases c2 : ac + 1 >= mg
   ·rw [if_pos c2]; exact wpS_pure z
   ·rw [if_neg c2]; exact wpS_pure ⟨rfl, z⟩
 ·rw [decide_eq_false c0, if_neg (by decide)]
  refine wpS_bind (bH e1 ?_)
  have m := h.pred_y (by omega) T.sy e2 fun v hv => Nat.le_trans (fO T.sx h1 f2 hv) (Nat.le_of_not_lt c0)
  rw [<- fi] at m
  by_cases c1 : (j - 1 == 1) = true
  ·rw [if_pos c1]
   have c1' : j - 1 = 1 := by simpa using c1
   refine wpS_pure ⟨Ok.refl _, ?_⟩
   show Res _ _ _ (jw _ _ _ _ _).toList
   rw [fD, c1']
   rw [c1'] at m
   exact m.fst T.sx h0
  ·rw [if_neg c1]
   have c1' : ¬ j - 1 = 1 := by simpa using c1
   have z : AfH rk xs ys n st none (o.push y) i (j - 1) st := ⟨Ok.refl _, m, h1, by omega, hi, by omega, by omega⟩
   by_cases c2 : bc + 1 >= mg
   ·rw [if_pos c2]; exact wpS_pure z
   ·rw [if_neg c2]; exact wpS_pure ⟨rfl, z⟩
def we (rk : Keyed -> Nat) (xs ys : Array Keyed) (n : Nat) (st : SortSt) (r : ForInStep HQ) (st' : SortSt) : Prop := match r with
 | .done e => e.1 ≠ none /\ AfH rk xs ys n st e.1 e.2.2.2.1 e.2.1 e.2.2.1 st'
 | .yield e => e.1 = none /\ AfH rk xs ys n st e.1 e.2.2.2.1 e.2.1 e.2.2.1 st'
structure HeH (rk : Keyed -> Nat) (xs ys o : Array Keyed) (i j n : Nat) (st st' : SortSt) : Prop where
 ok : Ok st st'
 m : MH rk xs.toList ys.toList o.toList.reverse i j
 h1 : 1 <= i
 h2 : 2 <= j
 hi : i <= xs.size
 hj : j <= ys.size
 hn : i + j <= n
theorem uR (O : Ask prog w A s kd M rk) (hk : kindOf st = kd) (T : Two rk M xs.toList ys.toList) (h0 : ∀ u, ys.toList[0]? = some u -> ∀ v ∈ xs.toList, rk u <= rk v) (h : HeH rk xs ys o i j n st st) (nn : n <= xs.size + ys.size) :
  wpS (model prog w) A E s (hiB xs ys (none, i, j, o, mg)) (we rk xs ys n st) st := by
 unfold hiB
 dsimp only
 refine wpS_bind (wpS_mono (wpS_forRange (I := fun x c st' => c.1 = none /\ HeH rk xs ys c.2.2.2.1 c.2.1 c.2.2.1 (n - x) st st' /\ x <= n)
  (Q := fun c st' => AfH rk xs ys n st c.1 c.2.2.2.1 c.2.1 c.2.2.1 st') ?s1 ?f1 ⟨rfl, h, Nat.zero_le _⟩) ?p1)
 case f1 =>
  rintro ⟨r, i, j, o, ac, bc⟩ st' ⟨rfl, z, _⟩
  have := z.hn; have := z.h1
  dsimp only at *
  omega
 case s1 =>
  rintro x ⟨r, i, j, o, ac, bc⟩ st' _ hx ⟨e, z, hx2⟩
  obtain rfl : r = none := e
  refine wpS_mono (uJ (n := n - x) O (z.ok.kd.trans hk) T h0 z.m z.h1 z.h2 z.hi z.hj z.hn) fun r st2 y => ?_
  cases r with
  | done e =>
   obtain ⟨r, i, j, o, ac, bc⟩ := e
   refine ⟨z.ok.trans y.1, ?_⟩
   cases r with
   | some r => exact y.2
   | none =>
    obtain ⟨_, b0, b1, b2, b3, b4, b5⟩ := y
    exact ⟨b0, b1, b2, b3, b4, by dsimp only at b5 ⊢; omega⟩
  | yield e =>
   obtain ⟨r, i, j, o, ac, bc⟩ := e
   obtain ⟨e, ok2, y⟩ := y
   obtain rfl : r = none := e
   obtain ⟨b0, b1, b2, b3, b4, b5⟩ := y
   exact ⟨rfl, ⟨z.ok.trans ok2, b0, b1, b2, b3, b4, by dsimp only at b5 ⊢; omega⟩, by dsimp only at b1 b2 b5; omega⟩
 case p1 =>
  rintro ⟨r, i, j, o, ac, bc⟩ st1 ⟨ok1, z⟩
  cases r with
  | some r => exact wpS_pure ⟨by simp, ok1, z⟩
  | none =>
   obtain ⟨b0, b1, b2, b3, b4, b5⟩ := z
   dsimp only at b0 b1 b2 b3 b4 b5 ⊢
   refine wpS_bind (wpS_lift (wpAny_rule ⟨rfl, ?_⟩))
   refine wpS_bind (wpS_mono (wpS_forRange (I := fun x c st' => c.1 = none /\ HeH rk xs ys c.2.2.2.1 c.2.1 c.2.2.1 (n - 1 - x) st st' /\ x + 1 <= n)
    (Q := fun c st' => AfH rk xs ys n st c.1 c.2.2.2.1 c.2.1 c.2.2.1 st') ?s2 ?f2 ⟨rfl, ⟨ok1, b0, b1, b2, b3, b4, by dsimp only; omega⟩, by omega⟩) ?p2)
   case f2 =>
    rintro ⟨r, i, j, o, mg, ac, bc⟩ st' ⟨rfl, z, _⟩
    have := z.hn; have := z.h1
    dsimp only at *
    omega
   case s2 =>
    rintro x ⟨r, i, j, o, mg, ac, bc⟩ st' _ hx ⟨e, z, hx2⟩
    obtain rfl : r = none := e
    have fin : ∀ r st2, pz rk xs ys (n - 1 - x) st' r st2 -> (match r with | .done c' => AfH rk xs ys n st c'.1 c'.2.2.2.1 c'.2.1 c'.2.2.1 st2 | .yield c' => c'.1 = none /\ HeH rk xs ys c'.2.2.2.1 c'.2.1 c'.2.2.1 (n - 1 - (x + 1)) st st2 /\ x + 1 + 1 <= n) := fun r st2 y => by
     cases r with
     | done e =>
      obtain ⟨r, i, j, o, mg, ac, bc⟩ := e
      refine ⟨z.ok.trans y.1, ?_⟩
      cases r with
      | some r => exact y.2
      | none =>
       obtain ⟨_, b0, b1, b2, b3, b4, b5⟩ := y
       exact ⟨b0, b1, b2, b3, b4, by dsimp only at b5 ⊢; omega⟩
     | yield e =>
      obtain ⟨r, i, j, o, mg, ac, bc⟩ := e
      obtain ⟨e, ok2, y⟩ := y
      obtain rfl : r = none := e
      obtain ⟨b0, b1, b2, b3, b4, b5⟩ := y
      exact ⟨rfl, ⟨z.ok.trans ok2, b0, b1, b2, b3, b4, by dsimp only at b5 ⊢; omega⟩, by dsimp only at b1 b2 b5; omega⟩
    dsimp only
    by_cases c : mg > 1
    ·rw [if_pos c]; exact wpS_mono (qg (n := n - 1 - x) O (z.ok.kd.trans hk) T h0 z.m z.h1 z.h2 z.hi z.hj z.hn) fun r st2 y => by have := fin r st2 y; cases r <;> exact this
    ·rw [if_neg c]; exact wpS_mono (qg (n := n - 1 - x) O (z.ok.kd.trans hk) T h0 z.m z.h1 z.h2 z.hi z.hj z.hn) fun r st2 y => by have := fin r st2 y; cases r <;> exact this
   case p2 =>
    rintro ⟨r, i, j, o, mg, ac, bc⟩ st2 ⟨ok2, z⟩
    cases r with
    | some r => exact wpS_pure ⟨by simp, ok2, z⟩
    | none =>
     dsimp only
     rw [gB]
     exact wpS_bind (wpS_modify (wpS_pure ⟨rfl, ok2.trans ⟨rfl, rfl, rfl, rfl⟩, z⟩))
theorem uf {Q : Array Keyed -> SortSt -> Prop} (O : Ask prog w A s kd M rk) (hk : kindOf st = kd) (T : Two rk M xs.toList ys.toList) (la : ∀ u, xs.toList[xs.size - 1]? = some u -> ∀ v ∈ ys.toList, rk v <= rk u) (h0 : ∀ u, ys.toList[0]? = some u -> ∀ v ∈ xs.toList, rk u <= rk v)
  (q : ∀ r st', Ok st st' -> Res rk xs.toList ys.toList r.toList -> Q r st') : wpS (model prog w) A E s (mHi xs ys) Q st := by
 rw [tY]
 refine wpS_bind (wpS_lift (wpAny_rule ⟨rfl, ?_⟩))
 have lx : 0 < xs.size := by have := List.length_pos_iff.mpr T.nx; rwa [Array.length_toList] at this
 have ly : 0 < ys.size := by have := List.length_pos_iff.mpr T.ny; rwa [Array.length_toList] at this
 obtain ⟨x, e1, e2⟩ := aO (a := xs) (k := xs.size - 1) (by omega)
 refine wpS_bind (bH e1 ?_)
 have m : MH rk xs.toList ys.toList (#[x] : Array Keyed).toList.reverse (xs.size - 1) ys.size := by
  refine ⟨?_, List.pairwise_singleton _ _, fun u hu v hv => ?_, fun u hu v hv => ?_⟩
  ·rw [bX e2, List.drop_eq_nil_of_le (by rw [Array.length_toList]; omega), List.drop_eq_nil_of_le (by rw [Array.length_toList]; omega)]
   exact List.Perm.refl _
  ·rw [show u = x from List.mem_singleton.mp hu]
   obtain ⟨k, hk'⟩ := List.mem_iff_getElem?.mp hv
   have hl := (List.getElem?_eq_some_iff.mp hk').1
   rw [List.length_take] at hl
   rw [List.getElem?_take, if_pos (by omega)] at hk'
   exact eh T.sx (by omega) hk' e2
  ·rw [show u = x from List.mem_singleton.mp hu]
   exact la x e2 v (List.mem_of_mem_take hv)
 by_cases c1 : (xs.size - 1 == 0) = true
 ·rw [if_pos c1]
  have c1' : xs.size - 1 = 0 := by simpa using c1
  refine wpS_pure (q _ _ (Ok.refl _) ?_)
  rw [dZ]
  exact m.fin T.sx T.sy (.inl c1')
 ·rw [if_neg c1]
  have c1' : ¬ xs.size - 1 = 0 := by simpa using c1
  by_cases c2 : (ys.size == 1) = true
  ·rw [if_pos c2]
   have c2' : ys.size = 1 := by simpa using c2
   refine wpS_pure (q _ _ (Ok.refl _) ?_)
   rw [fD, c2']
   rw [c2'] at m
   exact m.fst T.sx h0
  ·rw [if_neg c2]
   have c2' : ¬ ys.size = 1 := by simpa using c2
   refine wpS_bind (wpS_get ?_)
   refine wpS_bind (wpS_mono (wpS_forRange (I := fun x c st' => c.1 = none /\ HeH rk xs ys c.2.2.2.1 c.2.1 c.2.2.1 (xs.size + ys.size - 1 - x) st st')
    (Q := fun c st' => ∃ r, c.1 = some r /\ Ok st st' /\ Res rk xs.toList ys.toList r.toList) ?s1 ?f1 ⟨rfl, Ok.refl _, m, by dsimp only; omega, by dsimp only; omega, by dsimp only; omega, by dsimp only; omega, by dsimp only; omega⟩) ?p1)
   case f1 =>
    rintro ⟨r, i, j, o, mg⟩ st' ⟨rfl, z⟩
    have := z.hn; have := z.h1
    dsimp only at *
    omega
   case s1 =>
    rintro x ⟨r, i, j, o, mg⟩ st' _ hx ⟨e, z⟩
    obtain rfl : r = none := e
    refine wpS_mono (uR (n := xs.size + ys.size - 1 - x) O (z.ok.kd.trans hk) T h0 ⟨Ok.refl _, z.m, z.h1, z.h2, z.hi, z.hj, z.hn⟩ (by omega)) fun r st2 y => ?_
    cases r with
    | done e =>
     obtain ⟨r, i, j, o, mg⟩ := e
     obtain ⟨ne, ok2, y⟩ := y
     cases r with
     | some r => exact ⟨r, rfl, z.ok.trans ok2, y⟩
     | none => exact absurd rfl ne
    | yield e =>
     obtain ⟨r, i, j, o, mg⟩ := e
     obtain ⟨e, ok2, y⟩ := y
     obtain rfl : r = none := e
     obtain ⟨b0, b1, b2, b3, b4, b5⟩ := y
     exact ⟨rfl, z.ok.trans ok2, b0, b1, b2, b3, b4, by dsimp only at b5 ⊢; omega⟩
   case p1 =>
    rintro ⟨r, i, j, o, mg⟩ st' ⟨r', e, ok, z⟩
    obtain rfl : r = some r' := e
    exact wpS_pure (q _ _ ok z)
end
end L2.TS
namespace L2.TS
open PySem PySem.Spec PyProof.Rows
theorem nK (b : Nat) : ∀ (l : List Keyed) (n : Nat) (a : Array Keyed), b + n + l.length <= a.size -> ((l.zipIdx n).foldl (fun a p => a.setIfInBounds (b + p.2) p.1) a).toList = a.toList.take (b + n) ++ l ++ a.toList.drop (b + n + l.length)
 | [], n, a, _ => by simp
 | x :: l, n, a, h => by
  rw [List.length_cons] at h
  rw [List.zipIdx_cons, List.foldl_cons, nK b l (n + 1) _ (by rw [Array.size_setIfInBounds]; omega)]
  have hl : b + n < a.toList.length := by rw [Array.length_toList]; omega
  rw [Array.toList_setIfInBounds, List.length_cons]
  have e1 : (a.toList.set (b + n) x).take (b + (n + 1)) = a.toList.take (b + n) ++ [x] := by
   rw [show b + (n + 1) = b + n + 1 by omega, List.take_add_one, List.take_set_of_le (Nat.le_refl _), List.getElem?_set_self hl]; rfl
  have e2 : (a.toList.set (b + n) x).drop (b + (n + 1) + l.length) = a.toList.drop (b + n + (l.length + 1)) := by
   rw [List.drop_set_of_lt (by omega)]; congr 1; omega
  rw [e1, e2]
  simp
theorem tP (i : Nat) : mergeAt' i = (do
  let z <- get
  let (some (sa, na, pw), some (sb, nb, _)) := ((pendingOf z)[i]?, (pendingOf z)[i + 1]?) | unsupported "internal:list.sort.pending"
  set (setPending z (((pendingOf z).setIfInBounds i (sa, na + nb, pw)).eraseIdxIfInBounds (i + 1)))
  let some k <- gal false (<- elem' (arrOf z) sb) (arrOf z) sa na 0 | return false
  if na - k == 0 then return true
  let some m <- gal true (<- elem' (arrOf z) (sa + k + (na - k) - 1)) (arrOf z) sb nb (nb - 1) | return false
  if m == 0 then return true
  let l <- if na - k <= m then mLo ((arrOf z).extract (sa + k) sb) ((arrOf z).extract sb (sb + m)) else mHi ((arrOf z).extract (sa + k) sb) ((arrOf z).extract sb (sb + m))
  modify fun y => setArr y (l.toList.zipIdx.foldl (fun a (p, j) => a.setIfInBounds (sa + k + j) p) (arrOf y))
  return (failedOf (<- get)).isNone) := rfl
section
variable {prog : Program} {w : World} {A : Around} {E : Value -> Shared -> Prop} {s : Shared} {kd : SortKind} {M : Keyed -> Prop} {rk : Keyed -> Nat} {st : SortSt} {i : Nat}
theorem rQ {σ : Type} {Mo : Model} {x : σ} {Q : PUnit -> σ -> Prop} {st : σ} (h : Q ⟨⟩ x) : wpS Mo A E s (set x : StateT σ Sem PUnit) Q st := by
 unfold wpS; rw [StateT.run_set]; exact wpAny_pure ⟨rfl, h⟩
theorem jR {a b : List Keyed} (ha : Up rk a) (hb : Up rk b) (h : ∀ u ∈ a, ∀ v ∈ b, rk u <= rk v) : Up rk (a ++ b) := List.pairwise_append.mpr ⟨ha, hb, h⟩
theorem kX (a b : List Keyed) (n : Nat) : (a ++ b).drop (a.length + n) = b.drop n := by rw [<- List.drop_drop, List.drop_left' rfl]
theorem dW {l : List Keyed} {u : Keyed} (h : u ∈ l) : ∃ t, t < l.length /\ l[t]? = some u := by
 obtain ⟨t, ht⟩ := List.mem_iff_getElem?.mp h
 exact ⟨t, (List.getElem?_eq_some_iff.mp ht).1, ht⟩
theorem tQ {Q : Bool -> SortSt -> Prop} {P X Y S : List Keyed} {pw pv : Nat} (O : Ask prog w A s kd M rk) (hk : kindOf st = kd) (hf : failedOf st = none) (ha : (arrOf st).toList = P ++ (X ++ (Y ++ S))) (hm : ∀ u ∈ (arrOf st).toList, M u)
  (sx : Up rk X) (sy : Up rk Y) (nx : X ≠ []) (ny : Y ≠ []) (p1 : (pendingOf st)[i]? = some (P.length, X.length, pw)) (p2 : (pendingOf st)[i + 1]? = some (P.length + X.length, Y.length, pv))
  (q : ∀ Z st', kindOf st' = kd -> failedOf st' = none -> pendingOf st' = ((pendingOf st).setIfInBounds i (P.length, X.length + Y.length, pw)).eraseIdxIfInBounds (i + 1) -> (arrOf st').toList = P ++ (Z ++ S) -> Z.Perm (X ++ Y) -> Up rk Z -> Q true st') :
  wpS (model prog w) A E s (mergeAt' i) Q st := by
 rw [tP]
 refine wpS_bind (wpS_get ?_)
 rw [p1, p2]
 dsimp only
 refine wpS_bind (rQ ?_)
 generalize hst : setPending st (((pendingOf st).setIfInBounds i (P.length, X.length + Y.length, pw)).eraseIdxIfInBounds (i + 1)) = st1
 have ar1 : arrOf st1 = arrOf st := by rw [<- hst]
 have kd1 : kindOf st1 = kd := by rw [<- hst]; exact hk
 have fa1 : failedOf st1 = none := by rw [<- hst]; exact hf
 have pe1 : pendingOf st1 = ((pendingOf st).setIfInBounds i (P.length, X.length + Y.length, pw)).eraseIdxIfInBounds (i + 1) := by rw [<- hst]
 have lX : 0 < X.length := List.length_pos_iff.mpr nx
 have lY : 0 < Y.length := List.length_pos_iff.mpr ny
 have aX : ∀ t, t < X.length -> (arrOf st)[P.length + t]? = X[t]? := fun t ht => by
  rw [bU, ha, List.getElem?_append_right (by omega), Nat.add_sub_cancel_left, List.getElem?_append_left ht]
 have aY : ∀ t, t < Y.length -> (arrOf st)[P.length + X.length + t]? = Y[t]? := fun t ht => by
  rw [bU, ha, Nat.add_assoc, List.getElem?_append_right (by omega), Nat.add_sub_cancel_left, List.getElem?_append_right (by omega), Nat.add_sub_cancel_left, List.getElem?_append_left ht]
 have mX : ∀ u ∈ X, M u := fun u hu => hm u (by rw [ha]; exact List.mem_append_right _ (List.mem_append_left _ hu))
 have mY : ∀ u ∈ Y, M u := fun u hu => hm u (by rw [ha]; exact List.mem_append_right _ (List.mem_append_right _ (List.mem_append_left _ hu)))
 obtain ⟨y0, hy0⟩ : ∃ y0, Y[0]? = some y0 := ⟨Y[0], List.getElem?_eq_getElem lY⟩
 refine wpS_bind (bH (x := y0) (by rw [<- Nat.add_zero (P.length + X.length), aY 0 lY]; exact hy0) ?_)
 refine wpS_bind (fR O kd1 (mY y0 (List.mem_of_getElem? hy0)) (fun t ht => ?_) (fun a b hab hb => ?_) lX fun k hkX lo hi => ?_)
 ·rw [aX t ht]; exact ⟨X[t], List.getElem?_eq_getElem ht, mX _ (List.getElem_mem ht)⟩
 ·have e1 : X[a]? = some X[a] := List.getElem?_eq_getElem (by omega)
  have e2 : X[b]? = some X[b] := List.getElem?_eq_getElem hb
  rw [bT ((aX a (by omega)).trans e1), bT ((aX b hb).trans e2)]
  exact eh sx hab e1 e2
 dsimp only
 have lo' : ∀ t u, t < k -> X[t]? = some u -> rk u <= rk y0 := fun t u ht hu => by
  have := lo t ht
  rw [bT ((aX t (by omega)).trans hu)] at this
  exact of_decide_eq_true this
 have hi' : ∀ t u, k <= t -> X[t]? = some u -> rk y0 < rk u := fun t u ht hu => by
  have hl := (List.getElem?_eq_some_iff.mp hu).1
  have := hi t ht hl
  rw [bT ((aX t hl).trans hu)] at this
  have := of_decide_eq_false this
  omega
 have y0le : ∀ v ∈ Y, rk y0 <= rk v := fun v hv => fm sy hy0 (by rw [List.drop_zero]; exact hv)
 by_cases c1 : (X.length - k == 0) = true
 ·rw [if_pos c1]
  have c1' : X.length - k = 0 := by simpa using c1
  refine wpS_pure (q (X ++ Y) st1 kd1 fa1 pe1 (by rw [ar1, ha, List.append_assoc]) (List.Perm.refl _) (jR sx sy fun u hu v hv => ?_))
  obtain ⟨t, ht, hu⟩ := dW hu
  exact Nat.le_trans (lo' t u (by omega) hu) (y0le v hv)
 rw [if_neg c1]
 have c1' : ¬ X.length - k = 0 := by simpa using c1
 obtain ⟨xl, hxl⟩ : ∃ xl, X[X.length - 1]? = some xl := ⟨X[X.length - 1], List.getElem?_eq_getElem (by omega)⟩
 have leX : ∀ u ∈ X, rk u <= rk xl := fun u hu => by
  obtain ⟨t, ht, hu⟩ := dW hu
  exact eh sx (by omega) hu hxl
 refine wpS_bind (bH (x := xl) (by rw [show P.length + k + (X.length - k) - 1 = P.length + (X.length - 1) by omega, aX _ (by omega)]; exact hxl) ?_)
 refine wpS_bind (fR O kd1 (mX xl (List.mem_of_getElem? hxl)) (fun t ht => ?_) (fun a b hab hb => ?_) (by omega) fun m hmY lo2 hi2 => ?_)
 ·rw [aY t ht]; exact ⟨Y[t], List.getElem?_eq_getElem ht, mY _ (List.getElem_mem ht)⟩
 ·have e1 : Y[a]? = some Y[a] := List.getElem?_eq_getElem (by omega)
  have e2 : Y[b]? = some Y[b] := List.getElem?_eq_getElem hb
  rw [bT ((aY a (by omega)).trans e1), bT ((aY b hb).trans e2)]
  exact eh sy hab e1 e2
 dsimp only
 have lo2' : ∀ t u, t < m -> Y[t]? = some u -> rk u < rk xl := fun t u ht hu => by
  have := lo2 t ht
  rw [bT ((aY t (by omega)).trans hu)] at this
  exact of_decide_eq_true this
 have hi2' : ∀ t u, m <= t -> Y[t]? = some u -> rk xl <= rk u := fun t u ht hu => by
  have hl := (List.getElem?_eq_some_iff.mp hu).1
  have := hi2 t ht hl
  rw [bT ((aY t hl).trans hu)] at this
  have := of_decide_eq_false this
  omega
 by_cases c2 : (m == 0) = true
 ·rw [if_pos c2]
  have c2' : m = 0 := by simpa using c2
  refine wpS_pure (q (X ++ Y) st1 kd1 fa1 pe1 (by rw [ar1, ha, List.append_assoc]) (List.Perm.refl _) (jR sx sy fun u hu v hv => ?_))
  obtain ⟨t, ht, hv⟩ := dW hv
  exact Nat.le_trans (leX u hu) (hi2' t v (by omega) hv)
 rw [if_neg c2]
 have c2' : ¬ m = 0 := by simpa using c2
 have eX : ((arrOf st).extract (P.length + k) (P.length + X.length)).toList = X.drop k := by
  rw [gg, ha, List.drop_append, List.drop_eq_nil_of_le (by omega), List.nil_append, Nat.add_sub_cancel_left, List.drop_append_of_le_length (by omega), List.take_append_of_le_length (by rw [List.length_drop]; omega), List.take_of_length_le (by rw [List.length_drop]; omega)]
 have eY : ((arrOf st).extract (P.length + X.length) (P.length + X.length + m)).toList = Y.take m := by
  rw [gg, ha, Nat.add_sub_cancel_left, <- List.drop_drop, List.drop_left' rfl, List.drop_left' rfl, List.take_append_of_le_length hmY]
 have zX : ((arrOf st).extract (P.length + k) (P.length + X.length)).size = X.length - k := by rw [<- Array.length_toList, eX, List.length_drop]
 generalize (arrOf st).extract (P.length + k) (P.length + X.length) = ax at eX zX
 generalize (arrOf st).extract (P.length + X.length) (P.length + X.length + m) = ay at eY
 have T : Two rk M ax.toList ay.toList := by
  rw [eX, eY]
  refine ⟨sx.sublist (List.drop_sublist _ _), sy.sublist (List.take_sublist _ _), fun u hu => mX u (List.mem_of_mem_drop hu), fun u hu => mY u (List.mem_of_mem_take hu), fun z => ?_, fun z => ?_⟩
  ·have := congrArg List.length z; rw [List.length_drop, List.length_nil] at this; omega
  ·have := congrArg List.length z; rw [List.length_take, List.length_nil] at this; omega
 have la : ∀ u, ax.toList[ax.size - 1]? = some u -> ∀ v ∈ ay.toList, rk v <= rk u := fun u hu v hv => by
  rw [eX, zX, List.getElem?_drop, show k + (X.length - k - 1) = X.length - 1 by omega, hxl] at hu
  cases hu
  rw [eY] at hv
  obtain ⟨t, ht, hv⟩ := dW hv
  rw [List.length_take] at ht
  rw [List.getElem?_take, if_pos (by omega)] at hv
  exact Nat.le_of_lt (lo2' t v (by omega) hv)
 have h0 : ∀ u, ay.toList[0]? = some u -> ∀ v ∈ ax.toList, rk u <= rk v := fun u hu v hv => by
  rw [eY, List.getElem?_take, if_pos (by omega), hy0] at hu
  cases hu
  rw [eX] at hv
  obtain ⟨t, ht, hv⟩ := dW hv
  rw [List.getElem?_drop] at hv
  exact Nat.le_of_lt (hi' _ v (by omega) hv)
 have fin : ∀ (l : Array Keyed) (st2 : SortSt), Ok st1 st2 -> Res rk ax.toList ay.toList l.toList -> wpS (model prog w) A E s (do
   modify fun y => setArr y (l.toList.zipIdx.foldl (fun a (p, j) => a.setIfInBounds (P.length + k + j) p) (arrOf y))
   return (failedOf (<- get)).isNone) Q st2 := fun l st2 ok ⟨pm, up⟩ => by
  refine wpS_bind (wpS_modify (wpS_bind (wpS_get ?_)))
  have hfa : failedOf st2 = none := ok.fa.trans fa1
  have e0 : (failedOf (setArr st2 (l.toList.zipIdx.foldl (fun a (p, j) => a.setIfInBounds (P.length + k + j) p) (arrOf st2)))).isNone = true := by
   show (failedOf st2).isNone = true
   rw [hfa]; rfl
  rw [e0]
  rw [eX, eY] at pm
  have ll : l.toList.length = X.length - k + m := by rw [pm.length_eq, List.length_append, List.length_drop, List.length_take]; omega
  have es := nK (P.length + k) l.toList 0 (arrOf st2) (by
   rw [ll, ok.ar, ar1, <- Array.length_toList, ha]
   simp only [List.length_append]
   omega)
  have hml : ∀ u ∈ l.toList, u ∈ X.drop k \/ u ∈ Y.take m := fun u hu => List.mem_append.mp (pm.mem_iff.mp hu)
  refine wpS_pure (q (X.take k ++ (l.toList ++ Y.drop m)) _ (ok.kd.trans kd1) hfa (ok.pe.trans pe1) ?_ ?_ ?_)
  ·refine Eq.trans es ?_
   rw [ok.ar, ar1, ha, ll, Nat.add_zero, show P.length + k + (X.length - k + m) = P.length + (X.length + m) by omega, kX, kX, List.drop_append_of_le_length hmY, List.take_append, List.take_of_length_le (by omega), Nat.add_sub_cancel_left, List.take_append_of_le_length hkX]
   simp
  ·refine ((List.Perm.append_left _ (pm.append_right _))).trans ?_
   rw [List.append_assoc, List.take_append_drop, <- List.append_assoc, List.take_append_drop]
  ·refine jR (sx.sublist (List.take_sublist _ _)) (jR up (sy.sublist (List.drop_sublist _ _)) fun u hu v hv => ?_) fun u hu v hv => ?_
   ·rcases hml u hu with hu | hu
    ·obtain ⟨t, ht, hv⟩ := dW hv
     rw [List.getElem?_drop] at hv
     exact Nat.le_trans (leX u (List.mem_of_mem_drop hu)) (hi2' _ v (by omega) hv)
    ·have p := sy
     rw [<- List.take_append_drop m Y] at p
     exact (List.pairwise_append.mp p).2.2 u hu v hv
   ·obtain ⟨t, ht, hu⟩ := dW hu
    rw [List.length_take] at ht
    rw [List.getElem?_take, if_pos (by omega)] at hu
    have huy := lo' t u (by omega) hu
    have toY : ∀ v ∈ Y, rk u <= rk v := fun v hv => Nat.le_trans huy (y0le v hv)
    rcases List.mem_append.mp hv with hv | hv
    ·rcases hml v hv with hv | hv
     ·obtain ⟨t2, ht2, hv⟩ := dW hv
      rw [List.getElem?_drop] at hv
      exact eh sx (by omega) hu hv
     ·exact toY v (List.mem_of_mem_take hv)
    ·exact toY v (List.mem_of_mem_drop hv)
 by_cases c3 : X.length - k <= m
 ·rw [if_pos c3]
  exact wpS_bind (ur O kd1 T la h0 fin)
 ·rw [if_neg c3]
  exact wpS_bind (uf O kd1 T la h0 fin)
end
end L2.TS
namespace L2.TS
open PySem PySem.Spec PyProof.Rows
structure SB (kd : SortKind) (a0 : List Keyed) (pe : Array (Nat × Nat × Nat)) (st : SortSt) : Prop where
 pm : (arrOf st).toList.Perm a0
 kd : kindOf st = kd
 fa : failedOf st = none
 pe : pendingOf st = pe
structure Set0 (M : Keyed -> Prop) (rk : Keyed -> Nat) (a0 : List Keyed) : Prop where
 m : ∀ u ∈ a0, M u
 nd : (a0.map rk).Nodup
theorem qQ {α : Type} {a b : Array α} (h : a.Perm b) : a.toList.Perm b.toList := Array.perm_iff_toList_perm.mp h
def SU (rk : Keyed -> Nat) (a : Array Keyed) (lo k : Nat) : Prop := ∀ i j, i <= j -> j < k -> R rk a (lo + i) <= R rk a (lo + j)
def Pre (lo : Nat) (a b : Array Keyed) : Prop := ∀ k, k < lo -> b[k]? = a[k]?
theorem fM {rk : Keyed -> Nat} {a b : Array Keyed} {i j : Nat} (h : a[i]? = b[j]?) : R rk a i = R rk b j := by unfold R; rw [h]
theorem kD {rk : Keyed -> Nat} {a : Array Keyed} {i j : Nat} (hj : j <= a.size) (k : Nat) : R rk (mirror a i j ((j - i) / 2)) k = if i <= k /\ k < j then R rk a (i + j - 1 - k) else R rk a k := by
 have e := getElem?_mirror_all (i := i) hj k
 by_cases h1 : i <= k /\ k < j
 ·rw [if_pos h1] at e ⊢; exact fM e
 ·rw [if_neg h1] at e ⊢; exact fM e
theorem kJ {rk : Keyed -> Nat} {a : Array Keyed} {src d : Nat} (hs : src < a.size) (hd : d <= src) (k : Nat) : R rk (bubble a src d) k = if k = src - d then R rk a src else if src - d < k /\ k <= src then R rk a (k - 1) else R rk a k := by
 have e := getElem?_bubble hs d hd k
 by_cases h1 : k = src - d
 ·rw [if_pos h1] at e ⊢; exact fM e
 ·rw [if_neg h1] at e ⊢
  by_cases h2 : src - d < k /\ k <= src
  ·rw [if_pos h2] at e ⊢; exact fM e
  ·rw [if_neg h2] at e ⊢; exact fM e
section
variable {prog : Program} {w : World} {A : Around} {E : Value -> Shared -> Prop} {s : Shared} {kd : SortKind} {M : Keyed -> Prop} {rk : Keyed -> Nat} {st : SortSt} {a0 : List Keyed} {pe : Array (Nat × Nat × Nat)} {lo n : Nat}
theorem SB.size (B : SB kd a0 pe st) : (arrOf st).size = a0.length := by rw [<- Array.length_toList]; exact B.pm.length_eq
theorem SB.at (B : SB kd a0 pe st) (Z : Set0 M rk a0) {i : Nat} (h : i < a0.length) : ∃ u, (arrOf st)[i]? = some u /\ M u := by
 obtain ⟨u, e1, e2⟩ := aO (a := arrOf st) (k := i) (by rw [B.size]; exact h)
 exact ⟨u, e1, Z.m u (B.pm.mem_iff.mp (List.mem_of_getElem? e2))⟩
theorem SB.inj (B : SB kd a0 pe st) (Z : Set0 M rk a0) {i j : Nat} (hi : i < a0.length) (hj : j < a0.length) (e : R rk (arrOf st) i = R rk (arrOf st) j) : i = j := by
 have nd : ((arrOf st).toList.map rk).Nodup := (B.pm.map rk).nodup_iff.mpr Z.nd
 obtain ⟨u, e1, e2⟩ := aO (a := arrOf st) (k := i) (by rw [B.size]; exact hi)
 obtain ⟨v, f1, f2⟩ := aO (a := arrOf st) (k := j) (by rw [B.size]; exact hj)
 rw [bT e1, bT f1] at e
 have hl : ((arrOf st).toList.map rk).length = a0.length := by rw [List.length_map]; exact B.pm.length_eq
 refine (List.getElem_inj (h₀ := by rw [hl]; exact hi) (h₁ := by rw [hl]; exact hj) nd).mp ?_
 have g1 := (List.getElem?_eq_some_iff.mp e2).2
 have g2 := (List.getElem?_eq_some_iff.mp f2).2
 rw [List.getElem_map, List.getElem_map, g1, g2]
 exact e
theorem SB.arr {a : Array Keyed} (B : SB kd a0 pe st) (h : a.Perm (arrOf st)) : SB kd a0 pe (setArr st a) := ⟨(qQ h).trans B.pm, B.kd, B.fa, B.pe⟩
theorem fo {i j : Nat} {Q : Option Bool -> SortSt -> Prop} (O : Ask prog w A s kd M rk) (Z : Set0 M rk a0) (B : SB kd a0 pe st) (hi : i < a0.length) (hj : j < a0.length) (h : Q (some (decide (R rk (arrOf st) i < R rk (arrOf st) j))) st) : wpS (model prog w) A E s (ltAt' i j) Q st := by
 obtain ⟨u, e1, mu⟩ := B.at Z hi
 obtain ⟨v, e2, mv⟩ := B.at Z hj
 rw [bT e1, bT e2] at h
 rw [ltAt'_eq]
 exact wpS_bind (wpS_get (wpS_bind (bH e1 (wpS_bind (bH e2 (kA O B.kd mu mv h))))))
theorem gn {a : Nat} {Q : Option (Option Nat) × Nat -> SortSt -> Prop} (O : Ask prog w A s kd M rk) (Z : Set0 M rk a0) (B : SB kd a0 pe st) (hn : lo + n <= a0.length) (h1 : 1 <= a) (han : a <= n) (su : SU rk (arrOf st) lo a)
  (q : ∀ m, a <= m -> m <= n -> SU rk (arrOf st) lo m -> (m = n \/ R rk (arrOf st) (lo + m) < R rk (arrOf st) (lo + m - 1)) -> Q (none, m) st) :
  wpS (model prog w) A E s (forIn [a:n] ((none, a) : Option (Option Nat) × Nat) fun _ c => do
   match <- ltAt' (lo + c.2) (lo + c.2 - 1) with
   | some sm => if sm = true then pure (.done (none, c.2)) else pure (.yield (none, c.2 + 1))
   | _ => pure (.done (some none, c.2))) Q st := by
 refine wpS_forRange (I := fun x c st' => st' = st /\ c = (none, x) /\ SU rk (arrOf st) lo x) ?step ?fin ⟨rfl, rfl, su⟩
 case fin =>
  rintro c st' ⟨rfl, rfl, su'⟩
  rw [show max a n = n by omega] at su' ⊢
  exact q n han (Nat.le_refl _) su' (.inl rfl)
 case step =>
  rintro x c st' hax hxn ⟨rfl, rfl, su'⟩
  dsimp only
  refine wpS_bind (fo O Z B (by omega) (by omega) ?_)
  dsimp only
  by_cases c0 : R rk (arrOf st') (lo + x) < R rk (arrOf st') (lo + x - 1)
  ·rw [decide_eq_true c0, if_pos rfl]
   exact wpS_pure (q x hax (by omega) su' (.inr c0))
  ·rw [decide_eq_false c0, if_neg (by decide)]
   refine wpS_pure ⟨rfl, rfl, fun i j hij hj => ?_⟩
   by_cases hjx : j < x
   ·exact su' i j hij hjx
   ·obtain rfl : j = x := by omega
    by_cases hi' : i = j
    ·subst hi'; exact Nat.le_refl _
    ·have h1 := su' i (j - 1) (by omega) (by omega)
     rw [show lo + (j - 1) = lo + j - 1 by omega] at h1
     omega
theorem im {Q : Option Nat -> SortSt -> Prop} (O : Ask prog w A s kd M rk) (Z : Set0 M rk a0) (B : SB kd a0 pe st) (hn : lo + n <= a0.length) (h1 : 1 <= n)
  (q : ∀ m st', SB kd a0 pe st' -> 1 <= m -> m <= n -> Pre lo (arrOf st) (arrOf st') -> SU rk (arrOf st') lo m -> Q (some m) st') : wpS (model prog w) A E s (countRun' lo n) Q st := by
 rw [countRun'_eq]
 dsimp only
 refine wpS_bind (gn O Z B hn (Nat.le_refl _) h1 (fun i j _ _ => by rw [show i = j by omega]; exact Nat.le_refl _) fun m hm1 hm2 su e => ?_)
 dsimp only
 by_cases c1 : (m == n) = true
 ·rw [if_pos c1]
  exact wpS_pure (q m st B hm1 hm2 (fun _ _ => rfl) su)
 rw [if_neg c1]
 have c1' : ¬ m = n := by simpa using c1
 by_cases c2 : m > 1
 ·rw [if_pos c2]
  refine wpS_bind (fo O Z B (by omega) (by omega) ?_)
  dsimp only
  have h2 := su 0 (m - 1) (by omega) (by omega)
  rw [Nat.add_zero, show lo + (m - 1) = lo + m - 1 by omega] at h2
  have h3 : R rk (arrOf st) lo ≠ R rk (arrOf st) (lo + m - 1) := fun z => by have := B.inj Z (by omega) (by omega) z; omega
  rw [decide_eq_true (by omega), if_pos rfl]
  exact wpS_pure (q m st B hm1 hm2 (fun _ _ => rfl) su)
 rw [if_neg c2]
 obtain rfl : m = 1 := by omega
 have hd : R rk (arrOf st) (lo + 1) < R rk (arrOf st) (lo + 1 - 1) := by
  rcases e with e | e
  ·omega
  ·exact e
 refine wpS_bind (wpS_lift (wpAny_rule ⟨rfl, ?_⟩))
 refine wpS_bind (wpS_mono (wpS_forRange (I := fun x c st' => st' = st /\ c = (none, x, 0) /\ ∀ i j, i <= j -> j < x -> R rk (arrOf st) (lo + j) <= R rk (arrOf st) (lo + i))
  (Q := fun c st' => st' = st /\ ∃ x, c = (none, x, 0) /\ 2 <= x /\ x <= n /\ ∀ i j, i <= j -> j < x -> R rk (arrOf st) (lo + j) <= R rk (arrOf st) (lo + i)) ?step ?fin ⟨rfl, rfl, fun i j hij hj => ?_⟩) ?post)
 case fin =>
  rintro c st' ⟨rfl, rfl, dn⟩
  exact ⟨rfl, _, rfl, by omega, by omega, dn⟩
 case step =>
  rintro x c st' hax hxn ⟨rfl, rfl, dn⟩
  dsimp only
  refine wpS_bind (fo O Z B (by omega) (by omega) ?_)
  dsimp only
  by_cases c0 : R rk (arrOf st') (lo + x) < R rk (arrOf st') (lo + x - 1)
  ·rw [decide_eq_true c0, if_pos rfl, if_neg (by decide)]
   refine wpS_pure ⟨rfl, rfl, fun i j hij hj => ?_⟩
   by_cases hjx : j < x
   ·exact dn i j hij hjx
   ·obtain rfl : j = x := by omega
    by_cases hi' : i = j
    ·subst hi'; exact Nat.le_refl _
    ·have h1 := dn i (j - 1) (by omega) (by omega)
     rw [show lo + (j - 1) = lo + j - 1 by omega] at h1
     omega
  ·rw [decide_eq_false c0, if_neg (by decide)]
   refine wpS_bind (fo O Z B (by omega) (by omega) ?_)
   dsimp only
   have h3 : R rk (arrOf st') (lo + x) ≠ R rk (arrOf st') (lo + x - 1) := fun z => by have := B.inj Z (by omega) (by omega) z; omega
   rw [decide_eq_true (by omega), if_pos rfl]
   exact wpS_pure ⟨rfl, x, rfl, by omega, by omega, dn⟩
 case post =>
  rintro c st' ⟨rfl, x, rfl, x2, xn, dn⟩
  dsimp only
  rw [if_neg (by decide)]
  refine wpS_bind (wpS_reverse ?_)
  have sz : lo + x <= (arrOf st').size := by rw [B.size]; omega
  have B2 : SB kd a0 pe (setArr st' (mirror (arrOf st') lo (lo + x) ((lo + x - lo) / 2))) := B.arr (mirror_perm _ _ _ _)
  refine wpS_bind (gn O Z B2 hn (by omega) xn (fun i j hij hj => ?_) fun m hm1 hm2 su _ => ?_)
  ·show R rk (mirror (arrOf st') lo (lo + x) ((lo + x - lo) / 2)) (lo + i) <= R rk (mirror (arrOf st') lo (lo + x) ((lo + x - lo) / 2)) (lo + j)
   rw [kD sz, kD sz, if_pos (by omega), if_pos (by omega), show lo + (lo + x) - 1 - (lo + i) = lo + (x - 1 - i) by omega, show lo + (lo + x) - 1 - (lo + j) = lo + (x - 1 - j) by omega]
   exact dn _ _ (by omega) (by omega)
  ·refine wpS_pure (q m _ B2 (by omega) hm2 (fun k hk => ?_) su)
   show (mirror (arrOf st') lo (lo + x) ((lo + x - lo) / 2))[k]? = (arrOf st')[k]?
   rw [getElem?_mirror_all sz, if_neg (by omega)]
 ·by_cases e : i = j
  ·subst e; exact Nat.le_refl _
  ·have : i = 0 := by omega
   have : j = 1 := by omega
   subst_vars
   rw [Nat.add_sub_cancel] at hd
   exact Nat.le_of_lt hd
theorem sW {ok : Nat} {Q : Bool -> SortSt -> Prop} (O : Ask prog w A s kd M rk) (Z : Set0 M rk a0) (B : SB kd a0 pe st) (hn : lo + n <= a0.length) (hok : ok <= n) (su : SU rk (arrOf st) lo ok)
  (q : ∀ st', SB kd a0 pe st' -> Pre lo (arrOf st) (arrOf st') -> SU rk (arrOf st') lo n -> Q true st') : wpS (model prog w) A E s (binarySort' lo n ok) Q st := by
 rw [binarySort'_eq]
 dsimp only
 refine wpS_bind (wpS_mono (wpS_forRange (I := fun k c st' => c = (none, ()) /\ SB kd a0 pe st' /\ Pre lo (arrOf st) (arrOf st') /\ SU rk (arrOf st') lo (min k n))
  (Q := fun c st' => c = (none, ()) /\ SB kd a0 pe st' /\ Pre lo (arrOf st) (arrOf st') /\ SU rk (arrOf st') lo n) ?step ?fin ?init) ?post)
 case post =>
  rintro c st' ⟨rfl, B', p, su'⟩
  exact wpS_pure (q st' B' p su')
 case init =>
  refine ⟨rfl, B, fun _ _ => rfl, fun i j hij hj => ?_⟩
  by_cases h1 : ok = 0
  ·rw [show i = j by omega]; exact Nat.le_refl _
  ·exact su i j hij (by omega)
 case fin =>
  rintro c st' ⟨hc, B', p, su'⟩
  refine ⟨hc, B', p, ?_⟩
  rwa [show min (max (max ok 1) n) n = n by omega] at su'
 case step =>
  rintro k c st' hak hkn ⟨rfl, B', p, su'⟩
  rw [show min k n = k by omega] at su'
  refine wpS_bind (wpS_mono (wpS_forRange (I := fun x c st'' => st'' = st' /\ ∃ l r, c = (none, l, r) /\ l <= r /\ r <= k /\ r - l <= k - x /\
    (∀ i, i < l -> R rk (arrOf st') (lo + i) <= R rk (arrOf st') (lo + k)) /\ (∀ i, r <= i -> i < k -> R rk (arrOf st') (lo + k) <= R rk (arrOf st') (lo + i)))
   (Q := fun c st'' => st'' = st' /\ ∃ l r, c = (none, l, r) /\ l <= k /\
    (∀ i, i < l -> R rk (arrOf st') (lo + i) <= R rk (arrOf st') (lo + k)) /\ (∀ i, l <= i -> i < k -> R rk (arrOf st') (lo + k) <= R rk (arrOf st') (lo + i))) ?istep ?ifin ⟨rfl, 0, k, rfl, by omega, by omega, by omega, fun i hi => by omega, fun i h1 h2 => by omega⟩) ?ipost)
  case ifin =>
   rintro c st'' ⟨rfl, l, r, rfl, a1, a2, a3, a4, a5⟩
   obtain rfl : l = r := by omega
   exact ⟨rfl, l, l, rfl, a2, a4, a5⟩
  case istep =>
   rintro x c st'' _ hxk ⟨rfl, l, r, rfl, a1, a2, a3, a4, a5⟩
   dsimp only
   by_cases ge : l >= r
   ·rw [if_pos ge]
    obtain rfl : l = r := by omega
    exact wpS_pure ⟨rfl, l, l, rfl, a2, a4, a5⟩
   ·rw [if_neg ge]
    refine wpS_bind (fo O Z B' (by omega) (by omega) ?_)
    dsimp only
    by_cases c0 : R rk (arrOf st'') (lo + k) < R rk (arrOf st'') (lo + (l + r) / 2)
    ·rw [decide_eq_true c0, if_pos rfl]
     exact wpS_pure ⟨rfl, l, (l + r) / 2, rfl, by omega, by omega, by omega, a4, fun i h1 h2 => Nat.le_trans (Nat.le_of_lt c0) (su' _ _ h1 h2)⟩
    ·rw [decide_eq_false c0, if_neg (by decide)]
     exact wpS_pure ⟨rfl, (l + r) / 2 + 1, r, rfl, by omega, by omega, by omega, fun i h1 => Nat.le_trans (su' i ((l + r) / 2) (by omega) (by omega)) (Nat.le_of_not_lt c0), a5⟩
  case ipost =>
   rintro c st'' ⟨rfl, l, r, rfl, a1, a4, a5⟩
   dsimp only
   rw [moveDown'_eq]
   have hks : lo + k < (arrOf st'').size := by rw [B'.size]; omega
   refine wpS_bind (wpS_modify (wpS_pure ⟨rfl, B'.arr (bubble_perm _ _ _), fun i hi => ?_, ?_⟩))
   ·show (bubble (arrOf st'') (lo + k) (lo + k - (lo + l)))[i]? = _
    rw [getElem?_bubble hks _ (by omega), if_neg (by omega), if_neg (by omega)]
    exact p i hi
   ·rw [show min (k + 1) n = k + 1 by omega]
    intro i j hij hj
    show R rk (bubble (arrOf st'') (lo + k) (lo + k - (lo + l))) (lo + i) <= R rk (bubble (arrOf st'') (lo + k) (lo + k - (lo + l))) (lo + j)
    rw [kJ hks (by omega), kJ hks (by omega), show lo + k - (lo + k - (lo + l)) = lo + l by omega]
    by_cases i1 : i < l
    ·rw [if_neg (by omega), if_neg (by omega)]
     by_cases j1 : j < l
     ·rw [if_neg (by omega), if_neg (by omega)]; exact su' i j hij (by omega)
     ·by_cases j2 : j = l
      ·rw [if_pos (by omega)]; exact a4 i i1
      ·rw [if_neg (by omega), if_pos (by omega), show lo + j - 1 = lo + (j - 1) by omega]; exact su' _ _ (by omega) (by omega)
    ·by_cases i2 : i = l
     ·rw [if_pos (by omega)]
      by_cases j2 : j = l
      ·rw [if_pos (by omega)]; exact Nat.le_refl _
      ·rw [if_neg (by omega), if_pos (by omega), show lo + j - 1 = lo + (j - 1) by omega]; exact a5 _ (by omega) (by omega)
     ·rw [if_neg (by omega), if_pos (by omega), if_neg (by omega), if_pos (by omega), show lo + i - 1 = lo + (i - 1) by omega, show lo + j - 1 = lo + (j - 1) by omega]
      exact su' _ _ (by omega) (by omega)
end
end L2.TS
namespace L2.TS
open PySem PySem.Spec PyProof.Rows
def PM : Nat -> List (Nat × Nat × Nat) -> List (List Keyed) -> Prop
 | _, [], [] => True
 | b, p :: ps, r :: rs => p.1 = b /\ p.2.1 = r.length /\ PM (b + r.length) ps rs
 | _, _, _ => False
theorem PM.len : ∀ {b : Nat} {ps : List (Nat × Nat × Nat)} {rs : List (List Keyed)}, PM b ps rs -> ps.length = rs.length
 | _, [], [], _ => rfl
 | _, p :: ps, r :: rs, h => by rw [List.length_cons, List.length_cons, PM.len h.2.2]
 | _, [], _ :: _, h => h.elim
 | _, _ :: _, [], h => h.elim
theorem PM.split : ∀ {b : Nat} {ps : List (Nat × Nat × Nat)} {r1 r2 : List (List Keyed)}, PM b ps (r1 ++ r2) -> ∃ p1 p2, ps = p1 ++ p2 /\ PM b p1 r1 /\ PM (b + r1.flatten.length) p2 r2
 | b, ps, [], r2, h => ⟨[], ps, rfl, trivial, h⟩
 | b, p :: ps, r :: r1, r2, h => by
  obtain ⟨p1, p2, rfl, h1, h2⟩ := PM.split (r1 := r1) h.2.2
  refine ⟨p :: p1, p2, rfl, ⟨h.1, h.2.1, h1⟩, ?_⟩
  rw [List.flatten_cons, List.length_append, <- Nat.add_assoc]; exact h2
 | b, [], r :: r1, r2, h => h.elim
theorem PM.app : ∀ {b : Nat} {p1 p2 : List (Nat × Nat × Nat)} {r1 r2 : List (List Keyed)}, PM b p1 r1 -> PM (b + r1.flatten.length) p2 r2 -> PM b (p1 ++ p2) (r1 ++ r2)
 | b, [], p2, [], r2, _, h2 => h2
 | b, p :: p1, p2, r :: r1, r2, h1, h2 => by
  refine ⟨h1.1, h1.2.1, PM.app h1.2.2 ?_⟩
  rw [List.flatten_cons, List.length_append, <- Nat.add_assoc] at h2; exact h2
 | _, [], _, _ :: _, _, h, _ => h.elim
 | _, _ :: _, _, [], _, h, _ => h.elim
theorem PM.pows {f : Nat × Nat × Nat -> Nat × Nat × Nat} (hf : ∀ p, (f p).1 = p.1 /\ (f p).2.1 = p.2.1) : ∀ {b : Nat} {ps : List (Nat × Nat × Nat)} {rs : List (List Keyed)} (i : Nat), PM b ps rs -> PM b (ps.modify i f) rs
 | _, [], [], i, _ => by cases i <;> exact trivial
 | b, p :: ps, r :: rs, 0, h => by
  show PM b (f p :: ps) (r :: rs)
  exact ⟨(hf p).1.trans h.1, (hf p).2.trans h.2.1, h.2.2⟩
 | b, p :: ps, r :: rs, i + 1, h => by
  show PM b (p :: ps.modify i f) (r :: rs)
  exact ⟨h.1, h.2.1, PM.pows hf i h.2.2⟩
 | _, [], _ :: _, _, h => h.elim
 | _, _ :: _, [], _, h => h.elim
structure RS (kd : SortKind) (rk : Keyed -> Nat) (a0 : List Keyed) (st : SortSt) (rs : List (List Keyed)) (rest : List Keyed) : Prop where
 pm : (arrOf st).toList.Perm a0
 kd : kindOf st = kd
 fa : failedOf st = none
 ar : (arrOf st).toList = rs.flatten ++ rest
 pe : PM 0 (pendingOf st).toList rs
 up : ∀ r ∈ rs, Up rk r /\ r ≠ []
section
variable {prog : Program} {w : World} {A : Around} {E : Value -> Shared -> Prop} {s : Shared} {kd : SortKind} {M : Keyed -> Prop} {rk : Keyed -> Nat} {st : SortSt} {a0 rest : List Keyed} {rs : List (List Keyed)} {lo n : Nat}
theorem RS.sb (I : RS kd rk a0 st rs rest) : SB kd a0 (pendingOf st) st := ⟨I.pm, I.kd, I.fa, rfl⟩
theorem RS.psz (I : RS kd rk a0 st rs rest) : (pendingOf st).size = rs.length := by rw [<- Array.length_toList]; exact I.pe.len
theorem RS.len (I : RS kd rk a0 st rs rest) : rs.flatten.length + rest.length = a0.length := by rw [<- I.pm.length_eq, I.ar, List.length_append]
theorem qB : ∀ (i : Nat) (rs : List (List Keyed)), i + 1 < rs.length -> ∃ r0 X Y r1, rs = r0 ++ X :: Y :: r1 /\ r0.length = i
 | 0, [], h => by simp at h
 | 0, [_], h => by simp at h
 | 0, X :: Y :: r1, _ => ⟨[], X, Y, r1, rfl, rfl⟩
 | i + 1, [], h => by simp at h
 | i + 1, r :: rs, h => by
  obtain ⟨r0, X, Y, r1, rfl, e⟩ := qB i rs (by simpa using h)
  exact ⟨r :: r0, X, Y, r1, rfl, by simp [e]⟩
theorem kG {i : Nat} {Q : Bool -> SortSt -> Prop} (O : Ask prog w A s kd M rk) (Z : Set0 M rk a0) (I : RS kd rk a0 st rs rest) (hi : i + 1 < rs.length) (q : ∀ st' rs', RS kd rk a0 st' rs' rest -> rs'.length + 1 = rs.length -> Q true st') : wpS (model prog w) A E s (mergeAt' i) Q st := by
 obtain ⟨r0, X, Y, r1, rfl, e⟩ := qB i rs hi
 obtain ⟨p0, p', ep, h0, h'⟩ := I.pe.split
 match p', h' with
 | a :: b :: p1, h' =>
  obtain ⟨a1, a2, b1, b2, h1⟩ := h'
  have l0 : p0.length = i := h0.len.trans e
  obtain ⟨ux, nx⟩ := I.up X (by simp)
  obtain ⟨uy, ny⟩ := I.up Y (by simp)
  obtain ⟨as, al, aw⟩ := a
  obtain ⟨bs, bl, bw⟩ := b
  dsimp only at a1 a2 b1 b2
  rw [Nat.zero_add] at a1 b1 h1
  subst a1 a2 b1 b2
  refine tQ (P := r0.flatten) (X := X) (Y := Y) (S := r1.flatten ++ rest) (pw := aw) (pv := bw) O I.kd I.fa (by rw [I.ar]; simp) (fun u hu => Z.m u (I.pm.mem_iff.mp hu)) ux uy nx ny ?_ ?_ fun W st' k1 k2 k3 k4 k5 k6 => ?_
  ·rw [<- Array.getElem?_toList, ep, <- l0, List.getElem?_append_right (Nat.le_refl _), Nat.sub_self]; rfl
  ·rw [<- Array.getElem?_toList, ep, <- l0, List.getElem?_append_right (Nat.le_succ _), show p0.length.succ - p0.length = 1 by omega]; rfl
  ·refine q st' (r0 ++ W :: r1) ⟨?_, k1, k2, by rw [k4]; simp, ?_, fun r hr => ?_⟩ (by simp; omega)
   ·rw [k4]
    refine List.Perm.trans ?_ I.pm
    rw [I.ar]
    simp only [List.flatten_append, List.flatten_cons, List.append_assoc]
    refine List.Perm.append_left _ ?_
    rw [<- List.append_assoc X Y]
    exact k5.append_right _
   ·rw [k3, Array.toList_eraseIdxIfInBounds, Array.toList_setIfInBounds, ep, <- l0]
    have e1 : ((p0 ++ (r0.flatten.length, X.length, aw) :: (r0.flatten.length + X.length, Y.length, bw) :: p1).set p0.length (r0.flatten.length, X.length + Y.length, aw)).eraseIdx (p0.length + 1) = p0 ++ (r0.flatten.length, X.length + Y.length, aw) :: p1 := by
     rw [List.set_append_right _ _ (Nat.le_refl _), Nat.sub_self, List.eraseIdx_append_of_length_le (Nat.le_succ _), show p0.length.succ - p0.length = 1 by omega]; rfl
    rw [e1]
    refine h0.app ?_
    rw [Nat.zero_add]
    have lw : W.length = X.length + Y.length := by rw [k5.length_eq, List.length_append]
    refine ⟨rfl, lw.symm, ?_⟩
    rw [lw, <- Nat.add_assoc]; exact h1
   ·rcases List.mem_append.mp hr with hr | hr
    ·exact I.up r (List.mem_append_left _ hr)
    ·rcases List.mem_cons.mp hr with rfl | hr
     ·refine ⟨k6, fun z => ?_⟩
      have := k5.length_eq
      rw [z, List.length_nil, List.length_append] at this
      have := List.length_pos_iff.mpr nx
      omega
     ·exact I.up r (by simp [hr])
def jp1 (size lo n : Nat) : StateT SortSt Sem (ForInStep (Option Unit × Nat)) := do
 let z <- get
 match (pendingOf z).back? with
 | some (s1, n1, _) => do
  let c <- forIn [0:size] ((none, ()) : Option Unit × Unit) fun _ _ => do
   let z <- get
   match if (pendingOf z).size > 1 then (pendingOf z)[(pendingOf z).size - 2]? else none with
   | some (_, _, old) =>
    if old <= power' size (2 * s1 + n1) (2 * s1 + n1 + n1 + n) size then pure (.done (none, ()))
    else do
     let b <- mergeAt' ((pendingOf z).size - 2)
     if (!b) = true then pure (.done (some (), ())) else pure (.yield (none, ()))
   | _ => pure (.done (none, ()))
  match c.1 with
  | some r => pure (.done (some r, lo))
  | none => do
   modify fun y => setPending y ((pendingOf y).modify ((pendingOf y).size - 1) fun x => match x with | (t, l, _) => (t, l, power' size (2 * s1 + n1) (2 * s1 + n1 + n1 + n) size))
   modify fun y => setPending y ((pendingOf y).push (lo, n, 0))
   pure (.yield (none, lo + n))
 | _ => do
  modify fun y => setPending y ((pendingOf y).push (lo, n, 0))
  pure (.yield (none, lo + n))
theorem RS.push {r : List Keyed} (I : RS kd rk a0 st rs (r ++ rest)) (u : Up rk r) (ne : r ≠ []) (hl : lo = rs.flatten.length) (hn : n = r.length) : RS kd rk a0 (setPending st ((pendingOf st).push (lo, n, 0))) (rs ++ [r]) rest := by
 refine ⟨I.pm, I.kd, I.fa, by show (arrOf st).toList = _; rw [I.ar]; simp, ?_, fun x hx => ?_⟩
 ·show PM 0 ((pendingOf st).push (lo, n, 0)).toList (rs ++ [r])
  rw [Array.toList_push]
  exact I.pe.app ⟨by rw [Nat.zero_add]; exact hl, hn, trivial⟩
 ·rcases List.mem_append.mp hx with hx | hx
  ·exact I.up x hx
  ·rw [List.mem_singleton.mp hx]; exact ⟨u, ne⟩
theorem vi {size : Nat} {Q : ForInStep (Option Unit × Nat) -> SortSt -> Prop} {r : List Keyed} (O : Ask prog w A s kd M rk) (Z : Set0 M rk a0) (I : RS kd rk a0 st rs (r ++ rest)) (u : Up rk r) (ne : r ≠ []) (hl : lo = rs.flatten.length) (hn : n = r.length)
  (q : ∀ st' rs', RS kd rk a0 st' rs' rest -> lo + n = rs'.flatten.length -> Q (.yield (none, lo + n)) st') : wpS (model prog w) A E s (jp1 size lo n) Q st := by
 have fl : ∀ {st' rs'}, RS kd rk a0 st' rs' (r ++ rest) -> lo = rs'.flatten.length := fun {st' rs'} J => by have := J.len; have := I.len; omega
 have last : ∀ {st' rs'}, RS kd rk a0 st' rs' (r ++ rest) -> RS kd rk a0 (setPending st' ((pendingOf st').push (lo, n, 0))) (rs' ++ [r]) rest := fun {st' rs'} J => J.push u ne (fl J) hn
 have lf : ∀ {st' rs'}, RS kd rk a0 st' rs' (r ++ rest) -> lo + n = (rs' ++ [r]).flatten.length := fun {st' rs'} J => by have := fl J; rw [List.flatten_append, List.length_append, List.flatten_cons, List.flatten_nil, List.append_nil]; omega
 unfold jp1
 refine wpS_bind (wpS_get ?_)
 cases hb : (pendingOf st).back? with
 | none => exact wpS_bind (wpS_modify (wpS_pure (q _ _ (last I) (lf I))))
 | some b =>
  obtain ⟨s1, n1, b3⟩ := b
  dsimp only
  generalize power' size (2 * s1 + n1) (2 * s1 + n1 + n1 + n) size = pw
  refine wpS_bind (wpS_mono (wpS_forRange (I := fun _ c st' => c = (none, ()) /\ ∃ rs', RS kd rk a0 st' rs' (r ++ rest)) (Q := fun c st' => c = (none, ()) /\ ∃ rs', RS kd rk a0 st' rs' (r ++ rest)) ?step (fun c st' h => h) ⟨rfl, rs, I⟩) ?post)
  case step =>
   rintro x c st' _ _ ⟨rfl, rs', J⟩
   refine wpS_bind (wpS_get ?_)
   by_cases c1 : (pendingOf st').size > 1
   ·rw [if_pos c1]
    have sz := J.psz
    cases hp : (pendingOf st')[(pendingOf st').size - 2]? with
    | none => exact wpS_pure ⟨rfl, rs', J⟩
    | some p =>
     obtain ⟨p1, p2, old⟩ := p
     dsimp only
     by_cases c2 : old <= pw
     ·rw [if_pos c2]; exact wpS_pure ⟨rfl, rs', J⟩
     ·rw [if_neg c2]
      refine wpS_bind (kG O Z J (by omega) fun st2 rs2 J2 _ => ?_)
      rw [if_neg (by decide)]
      exact wpS_pure ⟨rfl, rs2, J2⟩
   ·rw [if_neg c1]
    exact wpS_pure ⟨rfl, rs', J⟩
  case post =>
   rintro c st' ⟨rfl, rs', J⟩
   dsimp only
   refine wpS_bind (wpS_modify ?_)
   have J2 : RS kd rk a0 (setPending st' ((pendingOf st').modify ((pendingOf st').size - 1) fun x => match x with | (t, l, _) => (t, l, pw))) rs' (r ++ rest) := by
    refine ⟨J.pm, J.kd, J.fa, J.ar, ?_, J.up⟩
    show PM 0 ((pendingOf st').modify ((pendingOf st').size - 1) fun x => match x with | (t, l, _) => (t, l, pw)).toList rs'
    rw [Array.toList_modify]
    exact PM.pows (f := fun x => match x with | (t, l, _) => (t, l, pw)) (fun p => ⟨rfl, rfl⟩) _ J.pe
   exact wpS_bind (wpS_modify (wpS_pure (q _ _ (last J2) (lf J2))))
theorem vB : sortRuns' = (do
  let z <- get
  let c <- forIn [0:(arrOf z).size] ((none, 0) : Option Unit × Nat) fun _ c =>
   if c.2 >= (arrOf z).size then pure (.done (none, c.2))
   else do
    match <- countRun' c.2 ((arrOf z).size - c.2) with
    | some n =>
     if n < minRun' (arrOf z).size (arrOf z).size 0 then do
      rule "list.sort.binary-insertion"
      let b <- binarySort' c.2 (min ((arrOf z).size - c.2) (minRun' (arrOf z).size (arrOf z).size 0)) n
      if (!b) = true then pure (.done (some (), c.2)) else jp1 (arrOf z).size c.2 (min ((arrOf z).size - c.2) (minRun' (arrOf z).size (arrOf z).size 0))
     else jp1 (arrOf z).size c.2 n
    | _ => pure (.done (some (), c.2))
  match c.1 with
  | some r => pure r
  | none => do
   let d <- forIn [0:(arrOf z).size] ((none, ()) : Option Unit × Unit) fun _ _ => do
    let y <- get
    if (pendingOf y).size <= 1 then pure (.done (none, ()))
    else do
     let b <- mergeAt' (if Option.any (fun x => decide (x < (pendingOf y)[(pendingOf y).size - 2 + 1]?.elim 0 fun x => x.snd.fst)) (if (pendingOf y).size - 2 > 0 then Option.map (fun x => x.snd.fst) (pendingOf y)[(pendingOf y).size - 2 - 1]? else none) = true then (pendingOf y).size - 2 - 1 else (pendingOf y).size - 2)
     if (!b) = true then pure (.done (some (), ())) else pure (.yield (none, ()))
   match d.1 with
   | some r => pure r
   | none => pure ()) := by
 rw [sortRuns'_eq]
 refine bind_congr fun z => ?_
 refine bL (fun x c => ?_) (fun c => ?_)
 ·refine ite_congr rfl (fun _ => rfl) fun _ => ?_
  refine bind_congr fun f => ?_
  cases f with
  | none => rfl
  | some f =>
   refine ite_congr rfl (fun _ => ?_) fun _ => ?_
   ·refine bind_congr fun _ => ?_
    refine bind_congr fun b => ?_
    refine ite_congr rfl (fun _ => rfl) fun _ => ?_
    unfold jp1
    refine bind_congr fun g => ?_
    cases (pendingOf g).back? with
    | none => rfl
    | some p =>
     obtain ⟨s1, n1, p3⟩ := p
     refine bL (fun x c => ?_) (fun c => ?_)
     ·rfl
     ·obtain ⟨r, c⟩ := c
      cases r <;> rfl
   ·unfold jp1
    refine bind_congr fun g => ?_
    cases (pendingOf g).back? with
    | none => rfl
    | some p =>
     obtain ⟨s1, n1, p3⟩ := p
     refine bL (fun x c => ?_) (fun c => ?_)
     ·rfl
     ·obtain ⟨r, c⟩ := c
      cases r <;> rfl
 ·obtain ⟨r, lo⟩ := c
  cases r with
  | some r => rfl
  | none =>
   refine bL (fun x c => rfl) (fun c => ?_)
   obtain ⟨r, c⟩ := c
   cases r <;> rfl
theorem nv : ∀ (rs : List (List Keyed)), (∀ r ∈ rs, r ≠ []) -> rs.length <= rs.flatten.length
 | [], _ => Nat.zero_le _
 | r :: rs, h => by
  have := nv rs fun x hx => h x (List.mem_cons_of_mem _ hx)
  have := List.length_pos_iff.mpr (h r List.mem_cons_self)
  rw [List.length_cons, List.flatten_cons, List.length_append]; omega
theorem qe {a : Array Keyed} {lo n : Nat} (h : SU rk a lo n) (hn : lo + n <= a.size) : Up rk ((a.toList.drop lo).take n) := by
 rw [Up, List.pairwise_iff_getElem]
 intro i j hi hj hij
 rw [List.length_take] at hi hj
 have g : ∀ k (hk : k < ((a.toList.drop lo).take n).length), rk ((a.toList.drop lo).take n)[k] = R rk a (lo + k) := fun k hk => by
  have hk2 := hk
  rw [List.length_take] at hk2
  rw [bT (x := ((a.toList.drop lo).take n)[k])]
  rw [bU, <- List.getElem?_drop, <- List.getElem?_eq_getElem hk, List.getElem?_take, if_pos (by omega)]
 rw [g, g]
 exact h i j (by omega) (by omega)
theorem runs_ok {Q : Unit -> SortSt -> Prop} (O : Ask prog w A s kd M rk) (Z : Set0 M rk a0) (B : SB kd a0 #[] st) (q : ∀ st', (arrOf st').toList.Perm a0 -> failedOf st' = none -> Up rk (arrOf st').toList -> Q () st') : wpS (model prog w) A E s sortRuns' Q st := by
 rw [vB]
 refine wpS_bind (wpS_get ?_)
 have sz := B.size
 rw [sz]
 generalize minRun' a0.length a0.length 0 = mr
 refine wpS_bind (wpS_mono (wpS_forRange (I := fun x c st' => ∃ rs rest, c.1 = none /\ RS kd rk a0 st' rs rest /\ c.2 = rs.flatten.length /\ x <= c.2)
  (Q := fun c st' => c.1 = none /\ ∃ rs, RS kd rk a0 st' rs []) ?step ?fin ⟨[], (arrOf st).toList, rfl, ⟨B.pm, B.kd, B.fa, rfl, by rw [B.pe]; trivial, by simp⟩, rfl, Nat.zero_le _⟩) ?post)
 case fin =>
  rintro ⟨c, lo⟩ st' ⟨rs, rest, e, I, hl, hx⟩
  have := I.len
  dsimp only at hl hx
  obtain rfl : rest = [] := List.length_eq_zero_iff.mp (by omega)
  exact ⟨e, rs, I⟩
 case step =>
  rintro x ⟨c, lo⟩ st' _ hx ⟨rs, rest, e, I, hl, hxl⟩
  obtain rfl : c = none := e
  dsimp only at hl hxl ⊢
  have il := I.len
  by_cases c1 : lo >= a0.length
  ·rw [if_pos c1]
   obtain rfl : rest = [] := List.length_eq_zero_iff.mp (by omega)
   exact wpS_pure ⟨rfl, rs, I⟩
  rw [if_neg c1]
  have nxt : ∀ (n : Nat) (st2 : SortSt), SB kd a0 (pendingOf st') st2 -> 1 <= n -> n <= a0.length - lo -> Pre lo (arrOf st') (arrOf st2) -> SU rk (arrOf st2) lo n -> wpS (model prog w) A E s (jp1 a0.length lo n) (fun r st'' => match r with | .done c' => c'.1 = none /\ ∃ rs, RS kd rk a0 st'' rs [] | .yield c' => ∃ rs rest, c'.1 = none /\ RS kd rk a0 st'' rs rest /\ c'.2 = rs.flatten.length /\ x + 1 <= c'.2) st2 := fun n st2 B2 n1 n2 pre su => by
   have z2 : (arrOf st2).toList.length = a0.length := B2.pm.length_eq
   have et : (arrOf st2).toList.take lo = rs.flatten := by
    have e1 : (arrOf st').toList.take lo = rs.flatten := by rw [I.ar, hl, List.take_left' rfl]
    rw [<- e1]
    apply List.ext_getElem?
    intro k
    rw [List.getElem?_take, List.getElem?_take]
    by_cases hk : k < lo
    ·rw [if_pos hk, if_pos hk, <- bU, <- bU]; exact pre k hk
    ·rw [if_neg hk, if_neg hk]
   have ea : (arrOf st2).toList = rs.flatten ++ ((((arrOf st2).toList.drop lo).take n) ++ (arrOf st2).toList.drop (lo + n)) := by
    rw [<- et, <- List.drop_drop, List.take_append_drop, List.take_append_drop]
   have lr : (((arrOf st2).toList.drop lo).take n).length = n := by rw [List.length_take, List.length_drop, z2]; omega
   have J : RS kd rk a0 st2 rs ((((arrOf st2).toList.drop lo).take n) ++ (arrOf st2).toList.drop (lo + n)) := ⟨B2.pm, B2.kd, B2.fa, ea, by rw [B2.pe]; exact I.pe, I.up⟩
   refine vi O Z J (qe su (by rw [<- Array.length_toList, z2]; omega)) (fun z => by rw [z, List.length_nil] at lr; omega) hl lr.symm fun st3 rs3 J3 h3 => ?_
   exact ⟨rs3, _, rfl, J3, h3, by dsimp only; omega⟩
  refine wpS_bind (im O Z I.sb (by omega) (by omega) fun m st2 B2 m1 m2 pre su => ?_)
  dsimp only
  by_cases c2 : m < mr
  ·rw [if_pos c2]
   refine wpS_bind (wpS_lift (wpAny_rule ⟨rfl, ?_⟩))
   refine wpS_bind (sW (n := min (a0.length - lo) mr) O Z B2 (by omega) (by omega) su fun st3 B3 pre3 su3 => ?_)
   rw [if_neg (by decide)]
   exact wpS_mono (nxt _ st3 B3 (by omega) (by omega) (fun k hk => (pre3 k hk).trans (pre k hk)) su3) fun r st4 y => by cases r <;> exact y
  ·rw [if_neg c2]
   exact wpS_mono (nxt m st2 B2 m1 m2 pre su) fun r st4 y => by cases r <;> exact y
 case post =>
  rintro ⟨c, lo⟩ st' ⟨e, rs, I⟩
  obtain rfl : c = none := e
  dsimp only
  have il := I.len
  have rl := nv rs fun r hr => (I.up r hr).2
  rw [List.length_nil] at il
  refine wpS_bind (wpS_mono (wpS_forRange (I := fun x c st' => c = (none, ()) /\ ∃ rs, RS kd rk a0 st' rs [] /\ (rs.length <= 1 \/ rs.length + x <= a0.length)) (Q := fun c st' => c = (none, ()) /\ ∃ rs, RS kd rk a0 st' rs [] /\ rs.length <= 1) ?s2 ?f2 ⟨rfl, rs, I, .inr (by omega)⟩) ?p2)
  case f2 =>
   rintro c st' ⟨rfl, rs, I, h⟩
   exact ⟨rfl, rs, I, by omega⟩
  case s2 =>
   rintro x c st' _ hx ⟨rfl, rs, I, h⟩
   refine wpS_bind (wpS_get ?_)
   have psz := I.psz
   by_cases c1 : (pendingOf st').size <= 1
   ·rw [if_pos c1]; exact wpS_pure ⟨rfl, rs, I, by omega⟩
   ·rw [if_neg c1]
    have go : ∀ i, i + 1 < rs.length -> wpS (model prog w) A E s (mergeAt' i) (fun b st2 => b = true /\ ∃ rs2, RS kd rk a0 st2 rs2 [] /\ rs2.length + 1 = rs.length) st' := fun i hi => kG O Z I hi fun st2 rs2 J2 l2 => ⟨rfl, rs2, J2, l2⟩
    refine wpS_bind (wpS_mono (go _ ?_) fun b st2 ⟨eb, rs2, J2, l2⟩ => ?_)
    ·have key : ∀ (b : Bool), (if b = true then (pendingOf st').size - 2 - 1 else (pendingOf st').size - 2) + 1 < rs.length := fun b => by cases b <;> simp <;> omega
     exact key _
    ·subst eb
     rw [if_neg (by decide)]
     exact wpS_pure ⟨rfl, rs2, J2, by omega⟩
  case p2 =>
   rintro c st' ⟨rfl, rs, I, h⟩
   refine wpS_pure (q st' I.pm I.fa ?_)
   rw [I.ar, List.append_nil]
   match rs, h, I with
   | [], _, _ => exact List.Pairwise.nil
   | [r], _, I => rw [List.flatten_cons, List.flatten_nil, List.append_nil]; exact (I.up r List.mem_cons_self).1
end
end L2.TS
namespace L2
open PySem PySem.Spec PyProof.Rows PySem.W KB
def prK (p : Pr) : List Key := [Sum.inr p.1, Sum.inl p.2]
theorem jH {p q : Pr} (h : prK p = prK q) : p = q := by
 unfold prK at h
 injection h with h1 h2
 injection h2 with h2 _
 injection h1 with h1
 injection h2 with h2
 exact Prod.ext h1 h2
section
variable (prog : Program) (w : World)
inductive bB (h : Heap) : List Pr -> List Value -> Prop
 | nil : bB h [] []
 | cons {p : Pr} {b : Addr} {ps : List Pr} {vs : List Value} : IsTupleKey (aA prog w) h (prK p) b -> bB h ps vs -> bB h (p :: ps) (.ref b :: vs)
def cr (h : Heap) (ps : List Pr) (a : Addr) : Prop := ∃ o items n, h.get? a = some o /\ o.cls = .type "tuple" /\ o.data = .seq items n /\ bB prog w h ps items.toList
def mL (ps : List Pr) : Int := reduceHash (Builtin.Tuple.tupleHashOf (ps.map fun p => tupleKeyHash (aA prog w) (prK p)))
end
section
variable {prog : Program} {w : World} {A : Around} {E : Value -> Shared -> Prop} {s : Shared} {ps qs : List Pr} {a b : Addr} {h h' : Heap}
theorem bB.inj : ∀ {ps qs : List Pr} {vs : List Value}, bB prog w h ps vs -> bB prog w h qs vs -> ps = qs
 | _, _, _, .nil, .nil => rfl
 | _, _, _, .cons x y, .cons z t => by rw [jH (x.inj z), bB.inj y t]
theorem cr.typeIs (x : cr prog w s.heap ps a) : s.TypeIs (.ref a) "tuple" := let ⟨o, _, _, e, c, _⟩ := x; ⟨o, e, c⟩
theorem cr.inj (x : cr prog w h ps a) (y : cr prog w h qs a) : ps = qs := by
 obtain ⟨o, its, n, e, _, d, i⟩ := x
 obtain ⟨o', its', n', e', _, d', i'⟩ := y
 cases e.symm.trans e'
 rw [d] at d'
 cases d'
 exact i.inj i'
theorem bB.keeps {d : Addr} {o : Obj} {es : Array DictEntry} {ep : Nat} (ho : h.get? d = some o) (hd : o.data = .dict es ep) (hs : Heap.SameBut d h h') : ∀ {ps : List Pr} {vs : List Value}, bB prog w h ps vs -> bB prog w h' ps vs
 | _, _, .nil => .nil
 | _, _, .cons x y => .cons (x.keeps ho hd hs) (bB.keeps ho hd hs y)
theorem cr.keeps {d : Addr} {o : Obj} {es : Array DictEntry} {ep : Nat} (x : cr prog w h ps a) (ho : h.get? d = some o) (hd : o.data = .dict es ep) (hs : Heap.SameBut d h h') : cr prog w h' ps a := by
 obtain ⟨o', its, n, e, c, d', i⟩ := x
 refine ⟨o', its, n, (hs.2 a fun z => ?_).trans e, c, d', i.keeps ho hd hs⟩
 subst z
 cases e.symm.trans ho
 rw [hd] at d'; cases d'
theorem bB.tup : ∀ {ps : List Pr} {vs : List Value}, bB prog w s.heap ps vs -> ps.length = vs.length
 | _, _, .nil => rfl
 | _, _, .cons _ y => by rw [List.length_cons, List.length_cons, bB.tup y]
theorem sY {Q : Int -> Shared -> Prop} (hu : A.units + 1 < cLine) (hk : cr prog w s.heap ps a) (q : Q (mL prog w ps) { s with toks := s.toks + (ps.length * 3 + 1) }) : wpAny (model prog w) A (pyHash (.ref a)) Q E s := by
 have T := hk.typeIs
 obtain ⟨o, items, n, ho, _, hd, hi⟩ := hk
 unfold pyHash
 first | unfold pyHashByItsType | skip
 first | refine wpAny_bind (wpAny_cRoomFor_or (.inr (Nat.lt_of_succ_lt hu)) ?_) | skip
 refine wpAny_bind (wpAny_specialOf T F.slot_tuple_hash.lookup ?_)
 show wpAny _ _ (if (some (Value.builtin "tuple.__hash__") == some Value.none) = true then _ else _) Q E s
 rw [if_neg (by rw [beq_builtin_none]; decide)]
 refine wpAny_bind (wpAny_specialOf T F.slot_tuple_hash.lookup ?_)
 show wpAny _ _ (callSpecialIfBoundUnlessNone? (.ref a) "__hash__" _ >>= _) Q E s
 refine wpAny_bind (wpAny_callSpecialIfBoundUnlessNone?_slot T F.slot_tuple_hash (wpAny_call_entry F.slot_tuple_hash T F.entry_tuple_hash ?_ (F.args_tuple_hash_1 _)))
 show wpAny _ _ (Builtin.Tuple.tupleItemsOf (.ref a) >>= _) _ _ s
 refine wpAny_bind (wpAny_tupleItemsOf ho hd (wpAny_bind ?_)); rw [<- Array.forIn_toList]
 refine wpAny_forIn_list _ (fun rest (b : Array Int) s' => ∃ dn left, ps = dn ++ left /\ bB prog w s.heap left rest /\ b.toList = dn.map (fun p => tupleKeyHash (aA prog w) (prK p)) /\ s' = { s with toks := s.toks + dn.length * 3 }) _ ?_ ?_ _ _ ⟨[], ps, rfl, hi, rfl, rfl⟩
 ·rintro x rest b s' ⟨dn, left, rfl, hl, hb, rfl⟩
  cases hl with
  | @cons p c ps' _ h1 hl' =>
   refine wpAny_bind (wpAny_pyHash_tuple (knd := aA prog w) (s := { s with toks := s.toks + dn.length * 3 }) hu h1 ?_)
   have nx : ∃ dn' left', dn ++ p :: ps' = dn' ++ left' /\ bB prog w s.heap left' rest /\ (b.push (tupleKeyHash (aA prog w) (prK p))).toList = dn'.map (fun p => tupleKeyHash (aA prog w) (prK p)) /\ ({ s with toks := s.toks + dn.length * 3 + ((prK p).length + 1) } : Shared) = { s with toks := s.toks + dn'.length * 3 } :=
    ⟨dn ++ [p], ps', by simp, hl', by simp [hb], by rw [List.length_append, List.length_singleton, show (prK p).length = 2 from rfl]; congr 1; omega⟩
   first
    | exact wpAny_pure nx
    | exact wpAny_bind (wpAny_pure (wpAny_pure nx))
 ·rintro b s' ⟨dn, left, rfl, hl, hb, rfl⟩
  cases hl
  rw [List.append_nil] at q
  show wpAny _ _ (retInt (Builtin.Tuple.tupleHashOf b.toList)) _ _ _
  rw [hb]
  refine wpAny_ret_mkInt ?_
  show wpAny _ _ (if (decide (-(2 : Int) ^ 63 <= Builtin.Tuple.tupleHashOf (dn.map fun p => tupleKeyHash (aA prog w) (prK p))) && decide (Builtin.Tuple.tupleHashOf (dn.map fun p => tupleKeyHash (aA prog w) (prK p)) < 2 ^ 63)) = true then _ else _) Q E _
  unfold mL reduceHash at q
  by_cases c : (decide (-(2 : Int) ^ 63 <= Builtin.Tuple.tupleHashOf (dn.map fun p => tupleKeyHash (aA prog w) (prK p))) && decide (Builtin.Tuple.tupleHashOf (dn.map fun p => tupleKeyHash (aA prog w) (prK p)) < 2 ^ 63)) = true
  ·rw [if_pos c] at q ⊢
   exact wpAny_pure (by simpa [Nat.add_assoc] using q)
  ·rw [if_neg c] at q ⊢
   exact wpAny_bind (wpAny_rule (wpAny_pure (by simpa [Nat.add_assoc] using q)))
theorem lU {P : PySem.Fin -> Shared -> Prop} (hu : A.units < cLine) (hx : cr prog w s.heap ps a) (hy : cr prog w s.heap qs b) (q : P (.done (.ret (.bool (decide (ps = qs))))) s) : wpAny (model prog w) A (Builtin.«tuple.__eq__» ⟨[.ref a, .ref b], []⟩) P E s := by
 have Tb := hy.typeIs
 obtain ⟨oa, xs, na, hoa, _, hda, hia⟩ := hx
 obtain ⟨ob, ys, nb, hob, _, hdb, hib⟩ := hy
 show wpAny _ _ (isInstance (.ref b) (.type "tuple") >>= _) _ _ s
 refine wpAny_bind (wpAny_isInstance Tb isSubtype_tuple_tuple ?_); simp only [Bool.not_true, Bool.false_eq_true, if_false]
 refine wpAny_bind (wpAny_tupleItemsOf hoa hda (wpAny_bind (wpAny_tupleItemsOf hob hdb (wpAny_bind ?_))))
 refine wpAny_forIn_list _ (fun rest r s' => r.1 = none /\ s' = s /\ ∃ x' y' xs' ys', rest = List.zip xs' ys' /\ bB prog w s.heap x' xs' /\ bB prog w s.heap y' ys' /\ decide (x' = y') = decide (ps = qs) /\ (xs'.length == ys'.length) = (xs.size == ys.size)) _ ?_ ?_ _ _ ⟨rfl, rfl, ps, qs, xs.toList, ys.toList, rfl, hia, hib, rfl, by simp⟩
 ·rintro ⟨u, v⟩ rest r s' ⟨hr, rfl, x', y', xs', ys', hz, hx', hy', hdec, hlen⟩
  cases hx' with
  | nil => simp at hz
  | @cons p1 c1 x'' xs'' h1 hx'' =>
   cases hy' with
   | nil => simp at hz
   | @cons p2 c2 y'' ys'' h2 hy'' =>
    simp only [List.zip_cons_cons, List.cons.injEq, Prod.mk.injEq] at hz
    obtain ⟨⟨rfl, rfl⟩, rfl⟩ := hz
    refine wpAny_bind (wpAny_eqBool_tuple (knd := aA prog w) hu h1 h2 ?_)
    by_cases hk : p1 = p2
    ·subst hk
     rw [decide_eq_true rfl]
     simp only [Bool.not_true, Bool.false_eq_true, if_false]
     refine wpAny_pure ⟨rfl, rfl, x'', y'', xs'', ys'', rfl, hx'', hy'', ?_, by simpa using hlen⟩
     rw [<- hdec]
     by_cases hxy : x'' = y'' <;> simp [hxy]
    ·rw [decide_eq_false (fun z => hk (jH z))]
     simp only [Bool.not_false, if_true]
     have hf : decide (ps = qs) = false := by rw [<- hdec]; simp [hk]
     rw [hf] at q
     exact wpAny_bind (wpAny_pure (wpAny_pure (wpAny_pure q)))
 ·rintro ⟨r1, r2⟩ s' ⟨hr, rfl, x', y', xs', ys', hz, hx', hy', hdec, hlen⟩
  obtain rfl : r1 = none := hr
  refine wpAny_pure ?_
  have hfin : (xs.size == ys.size) = decide (ps = qs) := by
   rw [<- hdec, <- hlen]
   cases hx' with
   | nil => cases hy' <;> simp
   | cons _ _ =>
    cases hy' with
    | nil => simp
    | cons _ _ => simp at hz
  show P (.done (.ret (.bool (xs.size == ys.size)))) s'
  rw [hfin]; exact q
theorem tI {Q : Bool -> Shared -> Prop} (hu : A.units + 1 < cLine) (hx : cr prog w s.heap ps a) (hy : cr prog w s.heap qs b) (q : Q (decide (ps = qs)) s) : wpAny (model prog w) A (eqBool (.ref a) (.ref b)) Q E s := by
 unfold eqBool
 try with_reducible refine wpAny_holding ?_
 show wpAny _ _ (if (Value.ref a == Value.ref b) = true then _ else _) Q E s
 by_cases hab : (Value.ref a == Value.ref b) = true
 ·rw [if_pos hab]
  have e : a = b := by have := eq_of_beq hab; injection this
  subst e
  cases hx.inj hy
  exact wpAny_bind (wpAny_rule (wpAny_pure (by simpa using q)))
 ·rw [if_neg hab]
  exact wpAny_bind (wpAny_richCompare_same_room (op := .Eq) hx.typeIs hy.typeIs F.slot_tuple_eq (wpAny_call_entry F.slot_tuple_eq hx.typeIs F.entry_tuple_eq (lU hu hx hy ⟨_, rfl, nofun, wpAny_truthy_bool q⟩) (F.args_tuple_eq_2 _ _)) (Nat.lt_of_succ_lt hu))
theorem mR {ks : List Key} {n : Nat} {Q : Bool -> Shared -> Prop} (hk : IsTupleKey (aA prog w) s.heap ks a) (q : Q true s) : wpAny (model prog w) A (eqIsQuiet (n + 1) (.ref a)) Q E s := by
 have T := hk.typeIs
 obtain ⟨o, items, m, ho, _, hd, hi⟩ := hk
 unfold eqIsQuiet
 refine wpAny_bind (wpAny_specialOf T F.slot_tuple_eq.lookup ?_)
 show wpAny _ _ (isInstance (.ref a) (.type "tuple") >>= _) _ _ s
 refine wpAny_bind (wpAny_isInstance T isSubtype_tuple_tuple ?_); simp only [Bool.not_true, Bool.false_eq_true, if_false]
 refine wpAny_bind (wpAny_seqItems ho hd (wpAny_bind ?_)); show wpAny _ _ (forIn items _ _) _ _ s
 rw [<- Array.forIn_toList]
 refine wpAny_forIn_list _ (fun rest r s' => r.1 = none /\ s' = s /\ ∀ v ∈ rest, carriedByValue v = true) _ ?_ ?_ _ _ ⟨rfl, rfl, hi.byValue⟩
 ·rintro v rest r s' ⟨hr, rfl, all⟩
  rw [eqIsQuiet_byValue _ (all v List.mem_cons_self)]
  refine wpAny_bind (wpAny_pure ?_); simp only [Bool.not_true, Bool.false_eq_true, if_false]
  exact wpAny_pure ⟨rfl, rfl, fun u hu => all u (List.mem_cons_of_mem _ hu)⟩
 ·rintro ⟨r1, r2⟩ s' ⟨hr, rfl, _⟩
  obtain rfl : r1 = none := hr
  exact wpAny_pure q
theorem qo {Q : Bool -> Shared -> Prop} (hk : cr prog w s.heap ps a) (q : Q true s) : wpAny (model prog w) A (eqIsQuiet 8 (.ref a)) Q E s := by
 have T := hk.typeIs
 obtain ⟨o, items, m, ho, _, hd, hi⟩ := hk
 unfold eqIsQuiet
 refine wpAny_bind (wpAny_specialOf T F.slot_tuple_eq.lookup ?_)
 show wpAny _ _ (isInstance (.ref a) (.type "tuple") >>= _) _ _ s
 refine wpAny_bind (wpAny_isInstance T isSubtype_tuple_tuple ?_); simp only [Bool.not_true, Bool.false_eq_true, if_false]
 refine wpAny_bind (wpAny_seqItems ho hd (wpAny_bind ?_)); show wpAny _ _ (forIn items _ _) _ _ s
 rw [<- Array.forIn_toList]
 refine wpAny_forIn_list _ (fun rest r s' => r.1 = none /\ s' = s /\ ∃ x', bB prog w s.heap x' rest) _ ?_ ?_ _ _ ⟨rfl, rfl, ps, hi⟩
 ·rintro v rest r s' ⟨hr, rfl, x', all⟩
  cases all with
  | @cons p c x'' _ h1 all' =>
   refine wpAny_bind (mR (n := 6) h1 ?_); simp only [Bool.not_true, Bool.false_eq_true, if_false]
   exact wpAny_pure ⟨rfl, rfl, x'', all'⟩
 ·rintro ⟨r1, r2⟩ s' ⟨hr, rfl, _⟩
  obtain rfl : r1 = none := hr
  exact wpAny_pure q
end
def fe (prog : Program) (w : World) : HeapKind prog w (List Pr) where
 is := cr prog w
 hash := mL prog w
 draws := fun ps => ps.length * 3 + 1
 room := fun A => A.units + 1 < cLine
 inj := fun x y => x.inj y
 keeps := fun x a b c => x.keeps a b c
 pyHash := fun a b c => sY a b c
 eqBool := fun a b c d => tI a b c d
 quiet := fun a b => qo a b
open PySem PySem.Spec PyProof.Rows PySem.W PySem.Calls
def DE (h : Heap) (d : Addr) (es : Array DictEntry) (ep : Nat) : Prop := ∃ o, h.get? d = some o /\ o.ExactDict /\ o.data = .dict es ep
theorem DE.at {h h' : Heap} {d : Addr} {es : Array DictEntry} {ep : Nat} (x : DE h d es ep) (k : ∀ o, h.get? d = some o -> h'.get? d = some o) : DE h' d es ep := let ⟨o, e, r⟩ := x; ⟨o, k o e, r⟩
theorem DE.lt {h : Heap} {d : Addr} {es : Array DictEntry} {ep : Nat} (x : DE h d es ep) : d < h.objs.size := let ⟨_, e, _⟩ := x; Heap.lt_size e
abbrev IR (h : Heap) (t d : Addr) (i n ep : Nat) (f0 f1 ok ov : Value) : Prop :=
 h.get? t = some { cls := .type "dict_itemiterator", dict := none, data := .fields #[f0, f1, .ref d, .int i 0, .int n 0, .int ep 0, ok, ov], slots := #[] }
def ItS (h : Heap) (t d : Addr) (i n ep : Nat) : Prop := ∃ f0 f1 ok ov, IR h t d i n ep f0 f1 ok ov /\ ((f0 = .none /\ f1 = .bool false) \/ ∃ (a : Addr) (oa : Obj) (f : Bool), f0 = rawInt a /\ f1 = .bool f /\ h.get? a = some oa /\ a ≠ t)
section
variable {prog : Program} {w : World} {A : Around} {E : Value -> Shared -> Prop} {s : Shared} {t d v : Addr} {es : Array DictEntry} {i ep : Nat}
theorem mI {Q : Value -> Shared -> Prop} (hv : s.heap.IsItemsView v d) (hm : DE s.heap d es ep) (q : Q (.ref s.heap.objs.size) { s with heap := s.heap.push { cls := .type "dict_itemiterator", data := .fields #[.none, .bool false, .ref d, .int 0 0, .int es.size 0, .int ep 0, .none, .none] } }) :
  wpAny (model prog w) A (pyIter (.ref v)) Q E s := by
 obtain ⟨o1, e1, _, d1⟩ := id hv
 obtain ⟨o2, e2, _, d2⟩ := hm
 refine wpAny_pyIter_slot hv.typeIs F.slot_dict_items_iter (wpAny_call_entry F.slot_dict_items_iter hv.typeIs F.entry_dict_items_iter ?_ (F.args_dict_items_iter_1 _))
 unfold Builtin.«dict_items.__iter__»; refine wpAny_bind (wpAny_pure (wpAny_bind ?_)); unfold Builtin.Dict_items.dictOf
 refine wpAny_bind (wpAny_field e1 d1 (x := .ref d) rfl (wpAny_pure (wpAny_bind ?_))); unfold Builtin.Dict_items.newIterator
 refine wpAny_bind (wpAny_dictEntries e2 d2 (wpAny_bind (wpAny_dictEpoch e2 d2 ?_)))
 simp only [show Builtin.Dict_items.ownsTuple "dict_itemiterator" = true by decide, if_true]
 refine wpAny_newObj_type (wpAny_pure ⟨_, rfl, "dict_itemiterator", _, ⟨_, Heap.get?_push_size _ rfl, rfl⟩, F.slot_dict_itemiterator_next.lookup, ?_⟩) (by simp only [sizeOk, Builtin.Dict_items.ownedTupleFields, List.size_toArray, List.length_append, List.length_cons, List.length_nil, sizeLine_eq]; omega)
 simpa [rawInt, Builtin.Dict_items.ownedTupleFields] using q
theorem mF {e : DictEntry} {Q : Option Value -> Shared -> Prop} (st : ItS s.heap t d i es.size ep) (hm : DE s.heap d es ep) (hx : es[i]? = some e)
  (q : ∀ h', ItS h' t d (i + 1) es.size ep -> h'.get? s.heap.objs.size = some { cls := .type "tuple", data := .seq #[e.key, e.val] } -> h'.objs.size = s.heap.objs.size + 1 -> (∀ b o, b ≠ t -> s.heap.get? b = some o -> h'.get? b = some o) -> Q (some (.ref s.heap.objs.size)) { s with heap := h' }) :
  wpAny (model prog w) A (pyNext (.ref t)) Q E s := by
 obtain ⟨f0, f1, ok, ov, hit, al⟩ := st
 obtain ⟨hp, g, dr, tk, os⟩ := s
 obtain ⟨od, e2, _, d2⟩ := hm
 have T : Shared.TypeIs ⟨hp, g, dr, tk, os⟩ (.ref t) "dict_itemiterator" := ⟨_, hit, rfl⟩
 obtain ⟨hi, ei⟩ := Array.getElem?_eq_some_iff.mp hx
 unfold pyNext
 refine wpAny_bind (wpAny_attempt (wpAny_callSpecial?_slot (name := Str.ofString "__next__") T F.slot_dict_itemiterator_next (wpAny_call_entry F.slot_dict_itemiterator_next T F.entry_dict_itemiterator_next ?_ (F.args_dict_itemiterator_next_1 _))))
 refine wpAny_bind (wpAny_pure (wpAny_bind (wpAny_bind ?_)))
 first | refine wpAny_bind (wpAny_typeNameOfWhole_itemiter T (wpAny_pure ?_)) | refine wpAny_bind (wpAny_typeNameOf_itemiter T (wpAny_pure ?_))
 refine wpAny_bind (wpAny_fieldsOf hit rfl ?_); simp only [show Builtin.Dict_items.ownsTuple "dict_itemiterator" = true by decide, if_true]
 show wpAny _ _ (if (Value.ref d == Value.none) = true then _ else _) _ _ _; rw [if_neg (show ¬ ((Value.ref d == Value.none) = true) by intro z; cases z)]
 refine wpAny_bind (wpAny_pure (wpAny_bind (wpAny_dictEntries e2 d2 ?_))); rw [if_neg (by simp)]
 refine wpAny_bind (wpAny_pure (wpAny_bind (wpAny_dictEpoch e2 d2 ?_))); rw [if_neg (by simp)]; refine wpAny_pure ?_
 simp only [show ¬ ((i : Int) < 0) by omega, if_false, Int.toNat_natCast, hx]; refine wpAny_bind ?_
 first | refine wpAny_bind (wpAny_typeNameOfWhole_itemiter T (wpAny_pure ?_)) | refine wpAny_bind (wpAny_typeNameOf_itemiter T (wpAny_pure ?_))
 refine wpAny_bind (wpAny_isOneOf_itemiter T ?_); show wpAny _ _ (setField (.ref t) 3 (rawInt ((i : Int) + 1)) >>= _) _ _ ⟨hp, g, dr, tk, os⟩
 refine wpAny_bind (wpAny_setField_rec hit (by simp) fun h1 i1 s1 => ?_)
 replace s1 : Heap.SameBut t hp h1 := s1
 replace i1 : IR h1 t d (i + 1) es.size ep f0 f1 ok ov := by
  have c : ((i + 1 : Nat) : Int) = (i : Int) + 1 := by omega
  unfold IR; rw [c]; simpa [rawInt] using i1
 have T1 : Shared.TypeIs ⟨h1, g, dr, tk, os⟩ (.ref t) "dict_itemiterator" := ⟨_, i1, rfl⟩
 refine wpAny_bind (wpAny_holding (wpAny_bind (wpAny_isOneOf_itemiter T1 (wpAny_bind (wpAny_isOneOf_itemiter T1 ?_)))))
 show wpAny _ _ (Builtin.Dict_items.pairFromOwner (.ref t) 6 e.key e.val) _ _ ⟨h1, g, dr, tk, os⟩
 unfold Builtin.Dict_items.pairFromOwner; refine wpAny_bind (wpAny_newTuple ?_)
 have i2 : IR (h1.push { cls := .type "tuple", data := .seq #[e.key, e.val] }) t d (i + 1) es.size ep f0 f1 ok ov := Heap.get?_push_of_some _ i1
 generalize e2' : h1.push { cls := .type "tuple", data := .seq #[e.key, e.val] } = h2 at i2
 have z1 : h1.objs.size = hp.objs.size := s1.1
 have tl : t < hp.objs.size := Heap.lt_size hit
 have t2 : h2.get? hp.objs.size = some { cls := .type "tuple", data := .seq #[e.key, e.val] } := by rw [<- e2', <- z1]; exact Heap.get?_push_size _ rfl
 have z2 : h2.objs.size = hp.objs.size + 1 := by rw [<- e2', Heap.size_push, z1]
 have k2 : ∀ b o, b ≠ t -> hp.get? b = some o -> h2.get? b = some o := fun b o hb x => by rw [<- e2']; exact Heap.get?_push_of_some _ (s1.extBut b o hb x)
 show wpAny _ _ (Builtin.Dict_items.ownedTupleIsFree (.ref t) >>= _) _ _ ⟨h2, g, dr, tk, os⟩; rw [z1]
 clear e2' i1 s1 T1 z1 h1
 have fin : ∀ h3 : Heap, ItS h3 t d (i + 1) es.size ep -> Heap.SameBut t h2 h3 -> Q (some (.ref hp.objs.size)) ⟨h3, g, dr, tk, os⟩ := fun h3 st3 s3 =>
  q h3 st3 (s3.extBut _ _ (Nat.ne_of_gt tl) t2) (by show h3.objs.size = hp.objs.size + 1; rw [s3.1, z2]) fun b o hb x => s3.extBut b o hb (k2 b o hb x)
 refine wpAny_bind ?_; unfold Builtin.Dict_items.ownedTupleIsFree
 rcases al with ⟨rfl, rfl⟩ | ⟨a, oa, f, rfl, rfl, ha, hat⟩
 ·refine wpAny_bind (wpAny_field i2 rfl (x := .none) rfl (wpAny_pure ?_)); simp only [if_true]
  refine wpAny_bind (wpAny_field i2 rfl (x := ok) rfl (wpAny_bind (wpAny_field i2 rfl (x := ov) rfl ?_)))
  refine wpAny_bind (wpAny_setField_rec i2 (by simp) fun h3 i3 s3 => ?_)
  replace s3 : Heap.SameBut t h2 h3 := s3
  replace i3 : IR h3 t d (i + 1) es.size ep .none (.bool false) e.key ov := i3
  refine wpAny_bind (wpAny_setField_rec i3 (by simp) fun h4 i4 s4 => ?_)
  replace s4 : Heap.SameBut t h3 h4 := s4
  replace i4 : IR h4 t d (i + 1) es.size ep .none (.bool false) e.key e.val := i4
  refine wpAny_bind (wpAny_setField_rec i4 (by simp) fun h5 i5 s5 => ?_)
  replace s5 : Heap.SameBut t h4 h5 := s5
  replace i5 : IR h5 t d (i + 1) es.size ep (rawInt hp.objs.size) (.bool false) e.key e.val := i5
  refine wpAny_bind (wpAny_setField_rec i5 (by simp) fun h6 i6 s6 => ?_)
  replace s6 : Heap.SameBut t h5 h6 := s6
  replace i6 : IR h6 t d (i + 1) es.size ep (rawInt hp.objs.size) (.bool false) e.key e.val := i6
  have sa : Heap.SameBut t h2 h6 := ⟨by rw [s6.1, s5.1, s4.1, s3.1], fun b hb => by rw [s6.2 b hb, s5.2 b hb, s4.2 b hb, s3.2 b hb]⟩
  exact wpAny_bind (wpAny_letGo (wpAny_pure (wpAny_pure ⟨_, rfl, wpAny_pure (fin h6 ⟨_, _, _, _, i6, .inr ⟨_, _, _, rfl, rfl, sa.extBut _ _ (Nat.ne_of_gt tl) t2, Nat.ne_of_gt tl⟩⟩ sa)⟩)))
 ·have a2 : h2.get? a = some oa := k2 a oa hat ha
  refine wpAny_bind (wpAny_field i2 rfl (x := rawInt a) rfl ?_); show wpAny _ _ (loadIfAlive ((a : Int).toNat) >>= _) _ _ _
  rw [Int.toNat_natCast]; refine wpAny_bind (kdx_alive a2 ?_); simp only [Option.isNone_some, Bool.false_eq_true, if_false]
  refine wpAny_bind (wpAny_field i2 rfl (x := .bool f) rfl ?_)
  cases f with
  | true =>
   rw [if_neg (show ¬ ((Value.bool true != Value.bool true) = true) by decide)]; refine wpAny_pure ?_; simp only [Bool.false_eq_true, if_false]
   exact wpAny_pure (wpAny_pure ⟨_, rfl, wpAny_pure (fin h2 ⟨_, _, _, _, i2, .inr ⟨a, oa, _, rfl, rfl, a2, hat⟩⟩ (Heap.SameBut.refl _ _))⟩)
  | false =>
   rw [if_pos (show (Value.bool false != Value.bool true) = true from rfl)]
   refine wpAny_bind (wpAny_setField_rec i2 (by simp) fun h3 i3 s3 => ?_)
   replace s3 : Heap.SameBut t h2 h3 := s3
   replace i3 : IR h3 t d (i + 1) es.size ep (rawInt a) (.bool true) ok ov := i3
   refine wpAny_pure ?_; simp only [Bool.false_eq_true, if_false]
   exact wpAny_pure (wpAny_pure ⟨_, rfl, wpAny_pure (fin h3 ⟨_, _, _, _, i3, .inr ⟨a, oa, _, rfl, rfl, s3.extBut _ _ hat a2, hat⟩⟩ s3)⟩)
theorem oA {Q : Option Value -> Shared -> Prop} (hh : A.handled = none) (st : ItS s.heap t d i es.size ep) (hm : DE s.heap d es ep) (hx : es[i]? = none) (q : ∀ h', Heap.ExtBut t s.heap h' -> Q none { s with heap := h' }) : wpAny (model prog w) A (pyNext (.ref t)) Q E s := by
 obtain ⟨f0, f1, ok, ov, hit, _⟩ := st
 obtain ⟨od, e2, _, d2⟩ := hm
 have T : s.TypeIs (.ref t) "dict_itemiterator" := ⟨_, hit, rfl⟩
 unfold pyNext
 refine wpAny_bind (wpAny_attempt (wpAny_callSpecial?_slot (name := Str.ofString "__next__") T F.slot_dict_itemiterator_next (wpAny_call_entry F.slot_dict_itemiterator_next T F.entry_dict_itemiterator_next ?_ (F.args_dict_itemiterator_next_1 _))))
 refine wpAny_bind (wpAny_pure (wpAny_bind (wpAny_bind ?_)))
 first | refine wpAny_bind (wpAny_typeNameOfWhole_itemiter T (wpAny_pure ?_)) | refine wpAny_bind (wpAny_typeNameOf_itemiter T (wpAny_pure ?_))
 refine wpAny_bind (wpAny_fieldsOf hit rfl ?_); simp only [show Builtin.Dict_items.ownsTuple "dict_itemiterator" = true by decide, if_true]
 show wpAny _ _ (if (Value.ref d == Value.none) = true then _ else _) _ _ s; rw [if_neg (show ¬ ((Value.ref d == Value.none) = true) by intro z; cases z)]
 refine wpAny_bind (wpAny_pure (wpAny_bind (wpAny_dictEntries e2 d2 ?_))); rw [if_neg (by simp)]
 refine wpAny_bind (wpAny_pure (wpAny_bind (wpAny_dictEpoch e2 d2 ?_))); rw [if_neg (by simp)]; refine wpAny_pure ?_
 simp only [show ¬ ((i : Int) < 0) by omega, if_false, Int.toNat_natCast, hx]; refine wpAny_bind ?_
 first | refine wpAny_bind (wpAny_typeNameOfWhole_itemiter T (wpAny_pure ?_)) | refine wpAny_bind (wpAny_typeNameOf_itemiter T (wpAny_pure ?_))
 show wpAny _ _ (setField (.ref t) 2 .none >>= _) _ _ s; refine wpAny_bind (wpAny_setField hit rfl (by simp) ?_)
 show wpAny _ _ (newExc (.type "StopIteration") [] >>= _) _ _ _; refine wpAny_bind ?_; simp only [newExc, newTuple]
 refine wpAny_bind (wpAny_newObj_type ?_ (by size_fits)); refine wpAny_bind (m := firstArgMember _ _) (wpAny_of_eq (a := Value.none) (by first | rfl | (simp only [firstArgMember]; rfl)) ?_)
 refine wpAny_newObj_type ?_ (by size_fits); simp only [raiseNew]
 refine wpAny_bind (wpAny_handled ?_); rw [show A.in1.handled = none from hh]; refine wpAny_bind (wpAny_pure (wpAny_throw ?_))
 exact wpAny_bind (wpAny_isInstance (T := "StopIteration") (b := true) ⟨_, Heap.get?_push_size _ rfl, rfl⟩ isSubtype_stop (wpAny_pure (q _ (((Heap.SameBut.update ..).extBut.push _).push _))))
end
theorem ItS.keep {h h' : Heap} {t d S : Addr} {i n ep : Nat} (x : ItS h t d i n ep) (k : ∀ b o, b ≠ S -> h.get? b = some o -> h'.get? b = some o) (hs : ∃ o, h'.get? S = some o) (ht : t ≠ S) : ItS h' t d i n ep := by
 obtain ⟨f0, f1, ok, ov, ir, al⟩ := x
 refine ⟨f0, f1, ok, ov, k _ _ ht ir, ?_⟩
 rcases al with al | ⟨a, oa, f, e1, e2, ha, hat⟩
 ·exact .inl al
 ·by_cases z : a = S
  ·obtain ⟨o, ho⟩ := hs
   exact .inr ⟨a, o, f, e1, e2, by rw [z]; exact ho, hat⟩
  ·exact .inr ⟨a, oa, f, e1, e2, k _ _ z ha, hat⟩
structure ItG (es : Array DictEntry) (lo : Addr) (h : Heap) (as : List Addr) : Prop where
 rise : as.Pairwise (· < ·)
 above : ∀ a ∈ as, lo < a
 pairs : ∀ (j : Nat) (a : Addr), as[j]? = some a -> ∃ e, es[j]? = some e /\ h.get? a = some { cls := .type "tuple", data := .seq #[e.key, e.val] }
theorem ItG.lt {es : Array DictEntry} {lo : Addr} {h : Heap} {as : List Addr} (g : ItG es lo h as) {a : Addr} (ha : a ∈ as) : a < h.objs.size := by
 obtain ⟨j, hj⟩ := List.mem_iff_getElem?.mp ha
 obtain ⟨_, _, e⟩ := g.pairs j a hj
 exact Heap.lt_size e
section
variable {prog : Program} {w : World} {A : Around} {s : Shared} {R : Result -> Shared -> Prop} {es : Array DictEntry} {ep : Nat}
theorem gR {S I d : Addr} (hh : A.handled = none) (hSI : S < I) (hSd : d ≠ S) (hId : d ≠ I) (hn : es.size <= sizeLine) (res : Value) {h1 : Heap}
  (q : ∀ h' tk acc c as, (∀ b o, b ≠ S -> b ≠ I -> h1.get? b = some o -> h'.get? b = some o) -> h'.get? S = some { cls := .type "list", dict := none, data := .seq acc c, slots := #[] } -> as.length = es.size -> ItG es I h' as -> acc.toList = as.map Value.ref -> R (.ok (.ret res)) { s with heap := h', toks := tk }) :
  ∀ (k i : Nat) (h : Heap) (tk c : Nat) (acc : Array Value) (as : List Addr), es.size - i = k -> i <= es.size -> ItS h I d i es.size ep -> DE h d es ep -> (∀ b o, b ≠ S -> b ≠ I -> h1.get? b = some o -> h.get? b = some o) ->
   h.get? S = some { cls := .type "list", dict := none, data := .seq acc c, slots := #[] } -> acc.toList = as.map Value.ref -> as.length = i -> ItG es I h as -> I < h.objs.size ->
   codeAny (model prog w) A (.builtin "list.extend.loop" ⟨[.ref S, .ref I, res], []⟩) R { s with heap := h, toks := tk }
 | 0, i, h, tk, c, acc, as, hk, hi, st, D, kp, hS, ea, la, G, lI => by
  have ne : S ≠ I := Nat.ne_of_lt hSI
  refine codeAny_builtin PySem.F.entry_extend_loop ?_; rw [Around.under_plainId PySem.F.plain_extend_loop _]
  show wpAny _ A.in1 (pyNext (.ref I) >>= _) _ _ _; refine wpAny_bind (oA (s := { s with heap := h, toks := tk }) (A := A.in1) hh st D (Array.getElem?_eq_none (by omega)) fun h' x => ?_)
  refine wpAny_pure (q h' tk acc c as (fun b o a1 a2 e => x b o a2 (kp b o a1 a2 e)) (x S _ ne hS) (by omega) ⟨G.rise, G.above, fun j a hj => ?_⟩ ea)
  obtain ⟨e, e1, e2⟩ := G.pairs j a hj
  exact ⟨e, e1, x a _ (Nat.ne_of_gt (G.above a (List.mem_of_getElem? hj))) e2⟩
 | k + 1, i, h, tk, c, acc, as, hk, hi, st, D, kp, hS, ea, la, G, lI => by
  have ne : S ≠ I := Nat.ne_of_lt hSI
  have lt : i < es.size := by omega
  have sz : acc.size = i := by rw [<- Array.length_toList, ea, List.length_map, la]
  have lS : S < h.objs.size := Heap.lt_size hS
  refine codeAny_builtin PySem.F.entry_extend_loop ?_; rw [Around.under_plainId PySem.F.plain_extend_loop _]
  show wpAny _ A.in1 (pyNext (.ref I) >>= _) _ _ _; refine wpAny_bind (mF (s := { s with heap := h, toks := tk }) (e := es[i]) st D (Array.getElem?_eq_getElem lt) fun h' st' ht hz hkp => ?_)
  dsimp only at ht hz hkp ⊢
  have hS' := hkp S _ ne hS
  have up : ∀ b o, b ≠ S -> h'.get? b = some o -> (h'.update S (Obj.mapSeq (·.push (Value.ref h.objs.size)))).get? b = some o := fun b o hb e => (Heap.get?_update_other _ _ (Ne.symm hb)).trans e
  have us := Heap.get?_update_self (Obj.mapSeq (·.push (Value.ref h.objs.size))) hS' rfl
  show wpAny _ A.in1 (updateSeq S (·.push (Value.ref h.objs.size)) >>= _) _ _ _; refine wpAny_bind ?_
  refine wpAny_updateSeq hS' rfl (wpAny_pure ⟨plainId_quiet PySem.F.plain_extend_loop _, gR hh hSI hSd hId hn res q k (i + 1) _ tk _ (acc.push (Value.ref h.objs.size)) (as ++ [h.objs.size]) (by omega) lt (st'.keep up ⟨_, us⟩ (Ne.symm ne)) (D.at fun o e => up d o hSd (hkp d o hId e))
   (fun b o a1 a2 e => up b o a1 (hkp b o a2 (kp b o a1 a2 e))) us (by rw [Array.toList_push, ea, List.map_append]; rfl) (by rw [List.length_append, la]; rfl) ⟨?_, ?_, ?_⟩ ?_⟩) (by rw [sz]; omega) (by show (acc.push (Value.ref h.objs.size)).size <= sizeLine + 1; rw [Array.size_push, sz]; omega)
  ·refine List.pairwise_append.mpr ⟨G.rise, List.pairwise_singleton _ _, fun a ha b hb => ?_⟩
   rw [List.mem_singleton.mp hb]; exact G.lt ha
  ·intro a ha
   rcases List.mem_append.mp ha with ha | ha
   ·exact G.above a ha
   ·rw [List.mem_singleton.mp ha]; exact lI
  ·intro j b hj
   by_cases h1 : j < as.length
   ·rw [List.getElem?_append_left h1] at hj
    obtain ⟨e, e1, e2⟩ := G.pairs j b hj
    have hb := G.above b (List.mem_of_getElem? hj)
    exact ⟨e, e1, up b _ (Nat.ne_of_gt (Nat.lt_trans hSI hb)) (hkp b _ (Nat.ne_of_gt hb) e2)⟩
   ·have h2 := (List.getElem?_eq_some_iff.mp hj).1
    rw [List.length_append, List.length_singleton] at h2
    obtain rfl : j = as.length := by omega
    obtain rfl : h.objs.size = b := by simpa using hj
    exact ⟨es[i], by rw [la]; exact Array.getElem?_eq_getElem lt, up _ _ (Nat.ne_of_gt lS) ht⟩
  ·have e : (h'.update S (Obj.mapSeq (·.push (Value.ref h.objs.size)))).get? h.objs.size = _ := up _ _ (Nat.ne_of_gt lS) ht
   exact Nat.lt_trans lI (Heap.lt_size e)
end
section
variable {prog : Program} {w : World} {A : Around} {E : Value -> Shared -> Prop} {s : Shared} {r d : Addr} {es : Array DictEntry} {ep : Nat}
theorem jS {R : Result -> Shared -> Prop} (hh : A.handled = none) (hv : s.heap.IsItemsView r d) (hm : DE s.heap d es ep) (S : Addr) (hSr : S ≠ r) (hSd : d ≠ S) (res : Value) (c0 : Nat) (hS : s.heap.get? S = some { cls := .type "list", data := .seq #[] c0 })
  (q : ∀ h' tk acc c as, (∀ b o, b ≠ S -> s.heap.get? b = some o -> h'.get? b = some o) -> h'.get? S = some { cls := .type "list", dict := none, data := .seq acc c, slots := #[] } -> as.length = es.size -> ItG es s.heap.objs.size h' as -> acc.toList = as.map Value.ref -> R (.ok (.ret res)) { s with heap := h', toks := tk }) (hn : es.size <= sizeLine) :
  wpAny (model prog w) A.in1 (Builtin.List.listExtendWith (.ref S) (.ref r) res) (fun fin s' => match fin with | .done f => R (.ok f) s' | .again c' => c'.quiet = true /\ codeAny (model prog w) A c' R s') (fun e s' => R (.error e) s') s := by
 have lS : S < s.heap.objs.size := Heap.lt_size hS
 have go : ∀ (h : Heap) (c1 tk : Nat), (∀ b o, b ≠ S -> (s.heap.push { cls := .type "dict_itemiterator", data := .fields #[.none, .bool false, .ref d, .int 0 0, .int es.size 0, .int ep 0, .none, .none] }).get? b = some o -> h.get? b = some o) -> h.get? S = some { cls := .type "list", data := .seq #[] c1 } ->
   codeAny (model prog w) A (.builtin "list.extend.loop" ⟨[.ref S, .ref s.heap.objs.size, res], []⟩) R { s with heap := h, toks := tk } := fun h c1 tk hk hS1 => by
  have hI := hk s.heap.objs.size _ (Nat.ne_of_gt lS) (Heap.get?_push_size _ rfl)
  exact gR (ep := ep) (s := s) (h1 := s.heap) hh lS hSd (Nat.ne_of_lt hm.lt) hn res (fun h' tk' acc c as k' a1 a2 a3 a4 => q h' tk' acc c as (fun b o hb e => k' b o hb (Nat.ne_of_lt (Heap.lt_size e)) e) a1 a2 a3 a4)
   es.size 0 h tk c1 #[] [] (Nat.sub_zero _) (Nat.zero_le _) ⟨_, _, _, _, hI, .inl ⟨rfl, rfl⟩⟩ (hm.at fun o e => hk d o hSd (Heap.get?_push_of_some _ e)) (fun b o hb _ e => hk b o hb (Heap.get?_push_of_some _ e)) hS1 rfl rfl ⟨List.Pairwise.nil, (fun _ z => nomatch z), (fun j a hj => by simp at hj)⟩ (Heap.lt_size hI)
 unfold Builtin.List.listExtendWith; refine wpAny_bind (wpAny_typeOf (T := "dict_items") hv.typeIs ?_)
 simp only [show Builtin.List.listSameRef (.ref S) (.ref r) = false by simp [Builtin.List.listSameRef, hSr], show (Value.type "dict_items" == Value.type "list") = false by decide, show (Value.type "dict_items" == Value.type "tuple") = false by decide, Bool.or_false, Bool.false_eq_true, if_false]
 refine wpAny_bind (mI hv hm ?_)
 have hS1 := Heap.get?_push_of_some { cls := .type "dict_itemiterator", data := .fields #[.none, .bool false, .ref d, .int 0 0, .int es.size 0, .int ep 0, .none, .none] } hS
 refine wpAny_bind (wpAny_holding (kdx_hint (let ⟨o, x, y, _⟩ := hv; ⟨o, Heap.get?_push_of_some _ x, y⟩) ?_))
 refine wpAny_ite_split (fun _ => ?_) (fun _ => wpAny_pure ⟨plainId_quiet PySem.F.plain_extend_loop _, go _ c0 _ (fun b o _ e => e) hS1⟩)
 refine wpAny_bind (wpAny_rule (wpAny_bind ?_)); show wpAny _ _ (updateSeq S (·.push .none) >>= fun _ => updateSeq S (·.pop)) _ _ _
 refine wpAny_bind (wpAny_updateSeq hS1 rfl ?_)
 have hS2 := Heap.get?_update_self (Obj.mapSeq (·.push Value.none)) hS1 rfl
 refine wpAny_updateSeq (hz := by seq_fits) hS2 rfl (wpAny_pure ⟨plainId_quiet PySem.F.plain_extend_loop _, go _ _ _ (fun b o hb e => ?_) (Heap.get?_update_self (Obj.mapSeq (·.pop)) hS2 rfl)⟩)
 exact (Heap.get?_update_other _ _ (Ne.symm hb)).trans ((Heap.get?_update_other _ _ (Ne.symm hb)).trans e)
theorem iF {R : List Value -> Shared -> Prop} (hh : A.handled = none) (hv : s.heap.IsItemsView r d) (hm : DE s.heap d es ep) (hn : es.size <= sizeLine)
  (q : ∀ (h' : Heap) (tk : Nat) (as : List Addr), (∀ b o, s.heap.get? b = some o -> h'.get? b = some o) -> as.length = es.size -> ItG es s.heap.objs.size h' as -> R (as.map Value.ref) { s with heap := h', toks := tk }) : wpAny (model prog w) A (collect (.ref r)) R E s := by
 have lr : r < s.heap.objs.size := let ⟨_, ho, _⟩ := hv; Heap.lt_size ho
 unfold collect; refine wpAny_bind (wpAny_runValue (codeAny_builtin entry_proto_collect' ?_)); rw [Around.under_plainId PySem.F.plain_proto_collect _]
 show wpAny _ A.in1 (newList [] >>= fun l => again (.builtin "list.__iadd__" ⟨[l, .ref r], []⟩)) _ _ s; refine wpAny_bind (wpAny_newObj_type ?_)
 refine wpAny_pure ⟨plainId_quiet PySem.F.plain_list_iadd _, codeAny_builtin entry_list_iadd' ?_⟩; rw [Around.under_plainId PySem.F.plain_list_iadd _]
 have hS1 : (s.heap.push { cls := .type "list", data := .seq ([] : List Value).toArray }).get? s.heap.objs.size = some { cls := .type "list", data := .seq #[] } := Heap.get?_push_size _ rfl
 show wpAny _ A.in1 (Builtin.List.listExtendWith (.ref s.heap.objs.size) (.ref r) (.ref s.heap.objs.size)) _ _ _
 have key := jS (A := A) (s := { s with heap := s.heap.push { cls := .type "list", data := .seq ([] : List Value).toArray } }) (es := es) (ep := ep) (prog := prog) (w := w)
  (R := fun (c : Result) (s' : Shared) => ∃ (h' : Heap) (tk : Nat) (acc' : Array Value) (c' : Nat) (as : List Addr), c = .ok (.ret (.ref s.heap.objs.size)) /\ s' = { s with heap := h', toks := tk } /\ (∀ b o, s.heap.get? b = some o -> h'.get? b = some o) /\ h'.get? s.heap.objs.size = some { cls := .type "list", dict := none, data := .seq acc' c', slots := #[] } /\ as.length = es.size /\ ItG es s.heap.objs.size h' as /\ acc'.toList = as.map Value.ref)
  hh (let ⟨o, x, y⟩ := hv; ⟨o, Heap.get?_push_of_some _ x, y⟩) (hm.at fun o e => Heap.get?_push_of_some _ e) s.heap.objs.size (Nat.ne_of_gt lr) (Nat.ne_of_lt hm.lt) (.ref s.heap.objs.size) 0 hS1
  (fun h' tk acc' c' as k' a1 a2 a3 a4 => ⟨h', tk, acc', c', as, rfl, rfl, fun b o e => k' b o (Nat.ne_of_lt (Heap.lt_size e)) (Heap.get?_push_of_some _ e), a1, a2, ⟨a3.rise, fun a ha => Nat.lt_trans (Nat.lt_succ_self _) (by have := a3.above a ha; rw [show ({ s with heap := s.heap.push { cls := .type "list", data := .seq ([] : List Value).toArray } } : Shared).heap.objs.size = s.heap.objs.size + 1 from Heap.size_push _ _] at this; exact this), a3.pairs⟩, a4⟩) hn
 have fin : ∀ (h' : Heap) (tk : Nat) (acc' : Array Value) (c' : Nat) (as : List Addr), (∀ b o, s.heap.get? b = some o -> h'.get? b = some o) -> h'.get? s.heap.objs.size = some { cls := .type "list", dict := none, data := .seq acc' c', slots := #[] } -> as.length = es.size -> ItG es s.heap.objs.size h' as -> acc'.toList = as.map Value.ref -> R acc'.toList { s with heap := h', toks := tk } := fun h' tk acc' c' as a1 _ a2 a3 a4 => by rw [a4]; exact q h' tk as a1 a2 a3
 refine wpAny_mono key (fun f s' x => ?_) fun e s' x => by obtain ⟨_, _, _, _, _, z, _⟩ := x; cases z
 cases f with
 | done f =>
  obtain ⟨h', tk, acc', c', as, e, rfl, a1, a2, a3, a4, a5⟩ := x
  cases e
  exact wpAny_bind (wpAny_load a2 (wpAny_pure (fin h' tk acc' c' as a1 a2 a3 a4 a5)))
 | again c1 =>
  refine ⟨x.1, codeAny_mono x.2 fun c s2 y => ?_⟩
  obtain ⟨h', tk, acc', c', as, rfl, rfl, a1, a2, a3, a4, a5⟩ := y
  exact wpAny_bind (wpAny_load a2 (wpAny_pure (fin h' tk acc' c' as a1 a2 a3 a4 a5)))
end
open PySem PySem.Spec PyProof.Rows PySem.W KB
abbrev PM := List Pr × Int
abbrev PX := List Pr × Addr × Value
def DpP (P : Program) (w : World) (a : Addr) (xs : List PX) (h : Heap) : Prop := ∃ o es ep, h.get? a = some o /\ o.ExactDict /\ o.data = .dict es ep /\ es.toList = xs.map (entryOfKey (fe P w))
def DpO (P : Program) (w : World) (a : Addr) (xs : List PX) : HO := .ext (DpP P w a xs)
def Tp (K : PySem.W.Frag) (H : Hp) (a : Addr) (xs : List V) : Prop := H a = some (.tup xs) \/ ∃ (o : Obj) (its : Array Value) (n : Nat), K.lookup a = some o /\ o.cls = .type "tuple" /\ o.data = .seq its n /\ its.size <= sizeLine /\ aF xs its.toList
def cF (K : PySem.W.Frag) (H : Hp) (ps : List Pr) (b : Addr) : Prop := Rep H (.tup (aJ ps)) (.ref b) \/ (ps = [] /\ Tp K H b [])
def TmR (K : PySem.W.Frag) (H : Hp) (p : PM) (v : V) : Prop := ∃ a b, v = .ref a /\ Tp K H a [.ref b, .int p.2] /\ cF K H p.1 b
def SmR (K : PySem.W.Frag) (H : Hp) (m : List PM) (v : V) : Prop := ∃ a us, v = .ref a /\ Tp K H a us /\ Paired (TmR K H) m us
section
variable {K : PySem.W.Frag} {H H' : Hp} {a b : Addr} {xs : List V} {ps : List Pr} {p : PM} {m : List PM} {v : V}
theorem Tp.sq (h : Tp K H a xs) : SqT K H a xs := by
 rcases h with h | h
 ·exact SqT.of h
 ·exact .inr h
theorem Tp.of (h : H a = some (.tup xs)) : Tp K H a xs := .inl h
theorem Tp.tups (t : ∀ c zs, H c = some (.tup zs) -> H' c = some (.tup zs)) (h : Tp K H a xs) : Tp K H' a xs := h.imp (t _ _) id
theorem pO (ps : List Pr) : L2.Pl 3 (.tup (aJ ps)) := .tup fun d hd => by
 obtain ⟨p, _, rfl⟩ := List.mem_map.mp hd
 exact .tup fun e he => by
  rcases List.mem_cons.mp he with rfl | he
  ·exact .str
  ·rw [List.mem_singleton.mp he]; exact .int
theorem cF.tups (t : ∀ c zs, H c = some (.tup zs) -> H' c = some (.tup zs)) (h : cF K H ps b) : cF K H' ps b := h.imp (bI t (pO ps)) fun ⟨e, h⟩ => ⟨e, h.tups t⟩
theorem cF.mono (t : az H H') (h : cF K H ps b) : cF K H' ps b := h.tups fun _ _ e => t _ _ e
theorem TmR.tups (t : ∀ c zs, H c = some (.tup zs) -> H' c = some (.tup zs)) : TmR K H p v -> TmR K H' p v := fun ⟨a, b, e, h, k⟩ => ⟨a, b, e, h.tups t, k.tups t⟩
theorem cN (t : ∀ c zs, H c = some (.tup zs) -> H' c = some (.tup zs)) : ∀ {m : List PM} {us : List V}, Paired (TmR K H) m us -> Paired (TmR K H') m us
 | _, _, .nil => .nil
 | _, _, .cons r q => .cons (r.tups t) (cN t q)
theorem SmR.tups (t : ∀ c zs, H c = some (.tup zs) -> H' c = some (.tup zs)) : SmR K H m v -> SmR K H' m v := fun ⟨a, us, e, h, k⟩ => ⟨a, us, e, h.tups t, cN t k⟩
theorem SmR.mono (t : az H H') : SmR K H m v -> SmR K H' m v := SmR.tups fun _ _ e => t _ _ e
end
def pvR (K : PySem.W.Frag) (H : Hp) (p : PM) (x : PX) : Prop := p.1 = x.1 /\ cF K H p.1 x.2.1 /\ ∃ t, x.2.2 = .int p.2 t
def Dp (K : PySem.W.Frag) (P : Program) (w : World) (H : Hp) (a : Addr) (m : List PM) : Prop := ∃ xs : List PX, H a = some (DpO P w a xs) /\ (a == sysModules) = false /\ m.length <= 100000 /\ (m.map (·.1)).Nodup /\ Paired (pvR K H) m xs
def dM (m : List PM) (k : List Pr) : Option Int := (m.find? fun p => decide (p.1 = k)).map (·.2)
def dQ (m : List PM) (k : List Pr) (n : Int) : List PM := if (dM m k).isSome then m.map (fun p => if p.1 = k then (p.1, n) else p) else m ++ [(k, n)]
theorem vO {P : Program} {w : World} {H : Hp} {h : Heap} {ps : List Pr} {b : Addr} (ok : HOk P w H h) (r : Rep H (.tup (aJ ps)) (.ref b)) : cr P w h ps b := by
 obtain ⟨a, vs, e, ha, rv⟩ := Rep.tup_inv r
 cases e
 obtain ⟨zz, its, vr, ⟨o, h1, h2, n, h3⟩, _⟩ := (show aU P w H h b (.tup vs) from ok b _ ha)
 refine ⟨o, its.toArray, n, h1, h2, h3, ?_⟩
 show bB P w h ps its
 clear h3 h2 h1 ha r zz
 induction ps generalizing vs its with
 | nil =>
  obtain rfl : vs = [] := by simpa only [aJ, List.map_nil, Reps] using rv
  cases vr
  exact .nil
 | cons p ps ih =>
  rw [show aJ (p :: ps) = .tup [.str p.1, .int p.2] :: aJ ps from rfl] at rv
  simp only [Reps] at rv
  obtain ⟨v, vs', rfl, r1, r2⟩ := rv
  obtain ⟨c, us, rfl, hc, ru⟩ := Rep.tup_inv r1
  obtain ⟨x, y, rfl, rx, ry⟩ := Reps.two ru
  obtain rfl : x = .str p.1 := by simpa only [Rep] using rx
  obtain rfl : y = .int p.2 := by simpa only [Rep] using ry
  cases vr with
  | cons r1 r2' =>
   cases r1
   exact .cons (gX (ks := prK p) ok hc) (ih _ r2 _ r2')
theorem jI {X : Cx} {pins : List (Addr × Obj)} {σ : St} {H : Hp} {s : Shared} {ps : List Pr} {b : Addr} (I : Inv X pins σ H s) (r : cF X.K H ps b) : cr X.prog X.w s.heap ps b := by
 rcases r with r | ⟨rfl, r⟩
 ·exact vO I.hok r
 ·obtain ⟨its, vr, ⟨o, h1, h2, n, h3⟩, _⟩ := I.tuple r.sq
  cases vr
  exact ⟨o, #[], n, h1, h2, h3, .nil⟩
section
variable {K : PySem.W.Frag} {P : Program} {w : World} {H H' : Hp} {h : Heap} {a b : Addr} {m : List PM} {xs : List PX} {k : List Pr} {n : Int}
theorem jY : ∀ {m : List PM} {xs : List PX}, Paired (pvR K H) m xs -> m.map (·.1) = xs.map (·.1)
 | _, _, .nil => rfl
 | _, _, .cons r t => by rw [List.map_cons, List.map_cons, r.1, jY t]
theorem qE (r : Paired (pvR K H) m xs) : m.length = xs.length := by have := congrArg List.length (jY r); simpa using this
theorem mE (k : List Pr) : ∀ {m : List PM} {xs : List PX}, Paired (pvR K H) m xs -> (dM m k = none /\ atKey xs k = none) \/ ∃ n c t, dM m k = some n /\ atKey xs k = some (c, .int n t)
 | _, _, .nil => .inl ⟨rfl, rfl⟩
 | p :: m, x :: xs, .cons r t => by
  unfold dM atKey
  rw [List.find?_cons, List.find?_cons]
  obtain ⟨e, _, tk, ev⟩ := r
  rw [<- e]
  by_cases z : p.1 = k
  ·rw [decide_eq_true z]
   refine .inr ⟨p.2, x.2.1, tk, rfl, ?_⟩
   rw [<- ev]; rfl
  ·rw [decide_eq_false z]
   exact mE k t
theorem rA (k : List Pr) (n : Int) (tk : Tok) : ∀ {m : List PM} {xs : List PX}, Paired (pvR K H) m xs -> Paired (pvR K H) (m.map fun p => if p.1 = k then (p.1, n) else p) (xs.map (putAt k (.int n tk)))
 | _, _, .nil => .nil
 | p :: m, x :: xs, .cons r t => by
  rw [List.map_cons, List.map_cons]
  refine .cons ?_ (rA k n tk t)
  unfold putAt
  obtain ⟨e, rr, ev⟩ := r
  rw [<- e]
  by_cases z : p.1 = k
  ·rw [if_pos z, if_pos z]; exact ⟨rfl, rr, tk, rfl⟩
  ·rw [if_neg z, if_neg z]; exact ⟨e, rr, ev⟩
theorem nc {p : PM} {x : PX} : ∀ {m : List PM} {xs : List PX}, Paired (pvR K H) m xs -> pvR K H p x -> Paired (pvR K H) (m ++ [p]) (xs ++ [x])
 | _, _, .nil, h => .cons h .nil
 | _, _, .cons r t, h => .cons r (nc t h)
theorem uh (r : Paired (pvR K H) m xs) (rk : cF K H k b) (tk : Tok) : Paired (pvR K H) (dQ m k n) (storedH xs k b (.int n tk)) := by
 unfold dQ storedH
 rcases mE k r with ⟨e1, e2⟩ | ⟨n', c, t, e1, e2⟩
 ·rw [e1, e2, if_neg (by decide), if_neg (by decide)]
  exact nc r ⟨rfl, rk, tk, rfl⟩
 ·rw [e1, e2, if_pos (show (some n').isSome = true from rfl), if_pos (show (some (c, Value.int n' t)).isSome = true from rfl)]
  exact rA k n tk r
theorem jv (k : ∀ c zs, H c = some (.tup zs) -> H' c = some (.tup zs)) : ∀ {m : List PM} {xs : List PX}, Paired (pvR K H) m xs -> Paired (pvR K H') m xs
 | _, _, .nil => .nil
 | _, _, .cons r t => .cons ⟨r.1, r.2.1.tups k, r.2.2⟩ (jv k t)
theorem sZ {X : Cx} {pins : List (Addr × Obj)} {σ : St} {H : Hp} {s : Shared} (I : Inv X pins σ H s) : ∀ {m : List PM} {xs : List PX}, Paired (pvR X.K H) m xs -> ∀ x ∈ xs, (fe X.prog X.w).is s.heap x.1 x.2.1
 | _, _, .nil, x, hx => by cases hx
 | _, _, .cons r t, x, hx => by
  rcases List.mem_cons.mp hx with rfl | hx
  ·have q := jI I r.2.1
   rw [r.1] at q; exact q
  ·exact sZ I t x hx
theorem iW {X : Cx} {pins : List (Addr × Obj)} {σ : St} {H : Hp} {s : Shared} (I : Inv X pins σ H s) (x : Dp X.K X.prog X.w H a m) : ∃ xs, H a = some (DpO X.prog X.w a xs) /\ (a == sysModules) = false /\ m.length <= 100000 /\ Paired (pvR X.K H) m xs /\ s.heap.DictOfH (fe X.prog X.w) a xs /\ (xs.map (·.1)).Nodup := by
 obtain ⟨xs, e, sm, l, nd, r⟩ := x
 obtain ⟨⟨o, es, ep, h1, h2, h3, h4⟩, _, _⟩ := (show aU X.prog X.w H s.heap a (DpO X.prog X.w a xs) from I.hok a _ e)
 have nd' : (xs.map (·.1)).Nodup := by rw [<- jY r]; exact nd
 refine ⟨xs, e, sm, l, r, ⟨o, es, ep, h1, h2, h3, h4, fun x hx => ?_, nd'⟩, nd'⟩
 exact sZ I r x hx
theorem pb (nd : (m.map (·.1)).Nodup) : ((dQ m k n).map (·.1)).Nodup := by
 unfold dQ
 split
 ·have e : (m.map fun p => if p.1 = k then (p.1, n) else p).map (·.1) = m.map (·.1) := by
   rw [List.map_map]
   refine List.map_congr_left fun p _ => ?_
   show (if p.1 = k then (p.1, n) else p).1 = p.1
   split <;> rfl
  rw [e]; exact nd
 ·next h =>
  rw [List.map_append]
  refine List.nodup_append.mpr ⟨nd, List.pairwise_singleton _ _, fun x hx y hy => ?_⟩
  obtain ⟨p, hp, rfl⟩ := List.mem_map.mp hx
  rw [List.map_singleton, List.mem_singleton] at hy
  rw [hy]
  intro z
  apply h
  unfold dM
  rw [Option.isSome_map, List.find?_isSome]
  exact ⟨p, hp, decide_eq_true z⟩
theorem gO : (dQ m k n).length <= m.length + 1 := by
 unfold dQ
 split
 ·rw [List.length_map]; omega
 ·rw [List.length_append]; exact Nat.le_refl _
end
section
variable {X : Cx} {o e f i value : Expr} {apos cpos pos pos' : Pos} {td ty tx tv : TE}
def uo (K : PySem.W.Frag) (P : Program) (w : World) : TE := fun _ H Q => ∀ (p : Addr) (H' : Hp), H p = none -> bA p H H' -> Dp K P w H' p [] -> Q (.ref p) H'
theorem kS : PE X (.Dict [] [] pos) (uo X.K X.prog X.w) := fun pins s σ H Q I h => by
 have hn := I.hok.fresh (Nat.le_refl s.heap.objs.size)
 refine wpAny_Dict_empty ⟨.ref s.heap.objs.size, _, I.laid (a := s.heap.objs.size) (o := DpO X.prog X.w s.heap.objs.size []) (t' := s.toks) (fun _ _ q => Heap.get?_push_of_some _ q) (Nat.le_refl _) ?_, rfl, h _ _ hn (bA.upd _ _ _) ?_⟩
 ·exact ⟨⟨_, #[], 0, Heap.get?_push_size _ rfl, ⟨rfl, rfl, rfl⟩, rfl, rfl⟩, ⟨_, Heap.get?_push_size _ rfl⟩, fun h1 h2 ⟨o, es, ep, q, r⟩ k => ⟨o, es, ep, k o q, r⟩⟩
 ·refine ⟨[], ad, ?_, Nat.zero_le _, List.nodup_nil, .nil⟩
  have := I.big
  cases z : (s.heap.objs.size == sysModules) with
  | false => rfl
  | true => rw [eq_of_beq z] at this; exact absurd this (Nat.lt_irrefl _)
def rK (K : PySem.W.Frag) (P : Program) (w : World) (td ty tx : TE) : TE := fun σ H Q => td σ H fun x H1 => ∃ a m0, x = .ref a /\ Dp K P w H1 a m0 /\ ty σ H1 fun y H2 => tx σ H2 fun z H3 => ∃ m ps b n, Dp K P w H3 a m /\ y = .ref b /\ cF K H3 ps b /\ z = .int n /\ Q (.int ((dM m ps).getD n)) H3
theorem iP (hu : X.A.units + 2 < cLine) (ho : PE X o td) (he : PE X e ty) (hf : PE X f tx) (mm : M2 X o "get" apos e f cpos) : PE X (.Call (.Attribute o "get" apos) [e, f] [] cpos) (rK X.K X.prog X.w td ty tx) := by
 intro pins s σ H Q I h
 refine wpAny_Call_method mm.base mm.few mm.line PySem.F.plainAttrs_dict PySem.F.slot_dict_get PySem.F.type_dict_get (thn (ho pins s σ H _ I h) fun u s1 ⟨x, H1, I1, rx, a, m0, ex, d0, q1⟩ => ?_)
 subst ex
 obtain rfl : u = Value.ref a := rx
 obtain ⟨xs0, _, _, _, _, dd0, _⟩ := iW I1 d0
 refine ⟨dd0.typeIs, fun b q => by cases q; obtain ⟨ob, _, _, h1, h2, _⟩ := dd0; exact ⟨ob, h1, h2.2.1⟩, ?_⟩
 rw [mm.trees]
 refine Calls.callWith_builtin rfl (Calls.evalArgs_plain (Calls.spliced_cons (thn (he pins s1 σ H1 _ I1 q1) fun iv s2 ⟨y, H2, I2, ry, q2⟩ =>
  Calls.spliced_cons (thn (hf pins s2 σ H2 _ I2 q2) fun fv s3 ⟨z, H3, I3, rz, m, ps, b, n, d3, ey, rk, ez, q3⟩ => Calls.spliced_nil ?_))))
 subst ey ez
 cases (show iv = Value.ref b from ry)
 obtain ⟨xs, _, sm, _, r, dd, _⟩ := iW I3 d3
 refine call_meetsIn PySem.F.slot_dict_get dd.typeIs PySem.F.entry_dict_get (PySem.F.args_dict_get_3 _ _ _) (meetsH_dict_get_default (fe X.prog X.w) a b sm fv) ⟨hu, ps, xs, jI I3 rk, dd, .int ((dM m ps).getD n), H3, I3.tok _, ?_, q3⟩
 rcases mE ps r with ⟨e1, e2⟩ | ⟨n', c, t, e1, e2⟩
 ·rw [e1, e2]; exact rz
 ·rw [e1, e2]; exact ⟨t, rfl⟩
def uz (K : PySem.W.Frag) (P : Program) (w : World) (td ty tv : TE) : TS := fun D σ H => tv σ H fun v H1 => td σ H1 fun x H2 => ty σ H2 fun y H3 => ∃ a m ps b n, x = .ref a /\ Dp K P w H3 a m /\ y = .ref b /\ cF K H3 ps b /\ v = .int n /\ m.length < 100000 /\ ∀ H4, bA a H3 H4 -> Dp K P w H4 a (dQ m ps n) -> D.nx σ H4
theorem kH (hu : X.A.units + 2 < cLine) (ho : PE X o td) (hi : PE X i ty) (hv : PE X value tv) (hs : swapsWith value (some (.Subscript o i pos')) pos.line X.env = pure false) : PS X (.Assign [.Subscript o i pos'] value pos) (uz X.K X.prog X.w td ty tv) := by
 intro pins s σ H D I h
 refine wpAny_Assign_Subscript (thn (hv pins s σ H _ I h) fun r s1 ⟨v, H1, I1, rv, q1⟩ => thn (ho pins s1 σ H1 _ I1 q1) fun u s2 ⟨x, H2, I2, rx, q2⟩ => thn (hi pins s2 σ H2 _ I2 q2) fun iv s3 ⟨y, H3, I3, ry, a, m, ps, b, n, ex, d3, ey, rk, ev, lm, q3⟩ => ?_) hs
 subst ex ey ev
 obtain rfl : u = Value.ref a := rx
 cases (show iv = Value.ref b from ry)
 obtain ⟨t, rfl⟩ := rv
 obtain ⟨xs, ea, sm, _, pr, dd, nd⟩ := iW I3 d3
 have lx : xs.length <= sizeLine := by rw [<- qE pr, sizeLine_eq]; omega
 refine wpAny_setItem_heap (hsz := lx) (knd := fe X.prog X.w) hu (jI I3 rk) dd fun h' dd' hs' => ?_
 obtain ⟨ob, es, ep, h1, h2, h3, h4, _, h5⟩ := dd'
 have I4 := gI (t' := s3.toks + (fe X.prog X.w).draws ps) (ob := DpO X.prog X.w a (storedH xs ps b (.int n t))) I3 (by rw [ea]; exact True.intro) hs' ⟨ob, h1⟩ ⟨⟨ob, es, ep, h1, h2, h3, h4⟩, ⟨ob, h1⟩, fun g1 g2 ⟨o, es, ep, q, r⟩ k => ⟨o, es, ep, k o q, r⟩⟩
 have tt : ∀ c zs, H3 c = some (.tup zs) -> upd H3 a (DpO X.prog X.w a (storedH xs ps b (.int n t))) c = some (.tup zs) := fun c zs ec => by rw [au (gU ec ea (fun z => nomatch z))]; exact ec
 refine ⟨σ, _, I4, q3 _ (bA.upd _ _ _) ⟨_, ad, sm, Nat.le_trans gO lm, ?_, jv tt (uh pr rk t)⟩⟩
 obtain ⟨_, _, _, _, nm, _⟩ := d3
 exact pb nm
end
section
variable {X : Cx}
theorem oo : MtR X "dict.items" (fun x xs H Q => ∃ d m, x = .ref d /\ xs = [] /\ Dp X.K X.prog X.w H d m /\ ∀ v, H v = none -> Q (.ref v) (upd H v (eA v d))) := by
 intro pins s σ H x xs u us Q I rx rv h
 obtain ⟨d, m, rfl, rfl, hd, q⟩ := h
 cases rx
 cases rv
 obtain ⟨ys, _, sm, _, _, dd, _⟩ := iW I hd
 refine wpAny_call_entry PySem.F.slot_dict_items dd.typeIs PySem.F.entry_dict_items ?_ (PySem.F.args_dict_items_1 _)
 unfold Builtin.«dict.items»; refine wpAny_bind ?_; unfold Builtin.Dict.noArgs
 refine wpAny_bind (wpAny_notOrdered_dict dd.typeIs ?_); show wpAny _ _ (pure d) _ _ s; refine wpAny_pure ?_
 show wpAny _ _ (Builtin.Dict.showsAll d >>= _) _ _ s; unfold Builtin.Dict.showsAll; rw [if_neg (by rw [sm]; decide)]
 refine wpAny_bind (wpAny_pure (wpAny_bind (wpAny_newObj_type (wpAny_pure ⟨_, rfl, .ref s.heap.objs.size, _, I.laid (t' := s.toks) (a := s.heap.objs.size) (o := eA s.heap.objs.size d) (fun b u q => Heap.get?_push_of_some _ q) (Nat.le_refl _) ?_, rfl, q _ I.fresh⟩))))
 exact ⟨⟨_, Heap.get?_push_size _ rfl, rfl, rfl⟩, ⟨_, Heap.get?_push_size _ rfl⟩, fun h1 h2 ⟨o, e, r⟩ k => ⟨o, k o e, r⟩⟩
end
def ltP (p q : Pr) : Bool := if p.1 = q.1 then decide (p.2 < q.2) else decide (p.1.cps.toList < q.1.cps.toList)
def ltK : List Pr -> List Pr -> Bool
 | [], [] => false
 | [], _ :: _ => true
 | _ :: _, [] => false
 | p :: ps, q :: qs => if p = q then ltK ps qs else ltP p q
theorem sj (p : Pr) : ltP p p = false := by unfold ltP; rw [if_pos rfl]; exact decide_eq_false (Int.lt_irrefl _)
theorem tN {p q r : Pr} (h1 : ltP p q = true) (h2 : ltP q r = true) : ltP p r = true := by
 unfold ltP at h1 h2 ⊢
 by_cases a : p.1 = q.1
 ·rw [if_pos a] at h1
  by_cases b : q.1 = r.1
  ·rw [if_pos b] at h2
   rw [if_pos (a.trans b)]
   exact decide_eq_true (Int.lt_trans (of_decide_eq_true h1) (of_decide_eq_true h2))
  ·rw [if_neg b] at h2
   rw [a, if_neg b]; exact h2
 ·rw [if_neg a] at h1
  by_cases b : q.1 = r.1
  ·rw [<- b, if_neg a]; exact h1
  ·rw [if_neg b] at h2
   have l := List.lt_trans (of_decide_eq_true h1) (of_decide_eq_true h2)
   rw [if_neg (fun z => by rw [z] at l; exact absurd l (List.lt_irrefl _))]
   exact decide_eq_true l
theorem ss {p q : Pr} (ne : p ≠ q) (h : ltP p q = false) : ltP q p = true := by
 unfold ltP at h ⊢
 by_cases a : p.1 = q.1
 ·rw [if_pos a] at h
  rw [if_pos a.symm]
  have := of_decide_eq_false h
  have n2 : p.2 ≠ q.2 := fun z => ne (Prod.ext a z)
  exact decide_eq_true (by omega)
 ·rw [if_neg a] at h
  rw [if_neg (Ne.symm a)]
  exact decide_eq_true (nE (of_decide_eq_false h) fun z => a (oi z))
theorem uq {p q : Pr} (h : ltP p q = true) : p ≠ q := fun z => by rw [z, sj] at h; cases h
theorem gA : ∀ a : List Pr, ltK a a = false
 | [] => rfl
 | p :: a => by rw [ltK, if_pos rfl]; exact gA a
theorem lK : ∀ {a b c : List Pr}, ltK a b = true -> ltK b c = true -> ltK a c = true
 | [], [], _, h, _ => by cases h
 | [], _ :: _, [], _, h => by cases h
 | [], _ :: _, _ :: _, _, _ => rfl
 | _ :: _, [], _, h, _ => by cases h
 | _ :: _, _ :: _, [], _, h => by cases h
 | p :: a, q :: b, r :: c, h1, h2 => by
  rw [ltK] at h1 h2 ⊢
  by_cases e1 : p = q
  ·subst e1
   rw [if_pos rfl] at h1
   by_cases e2 : p = r
   ·rw [if_pos e2] at h2 ⊢; exact lK h1 h2
   ·rw [if_neg e2] at h2 ⊢; exact h2
  ·rw [if_neg e1] at h1
   by_cases e2 : q = r
   ·subst e2
    rw [if_neg e1]; exact h1
   ·rw [if_neg e2] at h2
    have l := tN h1 h2
    rw [if_neg (uq l)]; exact l
theorem fJ : ∀ {a b : List Pr}, a ≠ b -> ltK a b = false -> ltK b a = true
 | [], [], h, _ => absurd rfl h
 | [], _ :: _, _, h => by cases h
 | _ :: _, [], _, _ => rfl
 | p :: a, q :: b, ne, h => by
  rw [ltK] at h ⊢
  by_cases e : p = q
  ·subst e
   rw [if_pos rfl] at h ⊢
   exact fJ (fun z => ne (by rw [z])) h
  ·rw [if_neg e] at h
   rw [if_neg (Ne.symm e)]
   exact ss e h
theorem lV {α : Type} {p q : α -> Bool} : ∀ {l : List α} {a : α}, (∀ z ∈ l, p z = true -> q z = true) -> a ∈ l -> q a = true -> p a = false -> l.countP p < l.countP q
 | x :: l, a, h, ha, qa, pa => by
  have m := List.countP_mono_left (p := p) (q := q) (l := l) fun z hz => h z (List.mem_cons_of_mem _ hz)
  rw [List.countP_cons, List.countP_cons]
  rcases List.mem_cons.mp ha with rfl | ha
  ·rw [qa, pa]; simp; omega
  ·have ih := lV (fun z hz => h z (List.mem_cons_of_mem _ hz)) ha qa pa
   have := h x List.mem_cons_self
   cases hp : p x with
   | false => simp; omega
   | true => rw [this hp]; simp; omega
theorem sJ {l : List (List Pr)} {a b : List Pr} (ha : a ∈ l) (hb : b ∈ l) : decide (l.countP (fun z => ltK z a) < l.countP (fun z => ltK z b)) = ltK a b := by
 cases h : ltK a b with
 | true => exact decide_eq_true (lV (fun z _ hz => lK hz h) ha h (gA a))
 | false =>
  refine decide_eq_false (Nat.not_lt.mpr ?_)
  by_cases e : a = b
  ·subst e; exact Nat.le_refl _
  ·exact Nat.le_of_lt (lV (fun z _ hz => lK hz (fJ e h)) hb (fJ e h) (gA b))
section
variable {prog : Program} {w : World} {A : Around} {E : Value -> Shared -> Prop} {s : Shared}
def qG (prog : Program) (w : World) (A : Around) (fin : Bool) (Q : Value -> Shared -> Prop) : List (Value × Value) -> Shared -> Prop
 | [], s => Q (.bool fin) s
 | (x, y) :: r, s => wpAny (model prog w) A (eqBool x y) (fun e s' => if e = true then qG prog w A fin Q r s' else wpAny (model prog w) A (richCompare .Lt x y) (fun v s2 => v ≠ .notImplemented /\ Q v s2) (fun _ _ => False) s') (fun _ _ => False) s
theorem nB {a b : Addr} {oa ob : Obj} {xs ys : Array Value} {n k : Nat} {Q : Value -> Shared -> Prop} (hu : A.units < cLine) (ha : s.heap.get? a = some oa) (ca : oa.cls = .type "tuple") (da : oa.data = .seq xs n) (hb : s.heap.get? b = some ob) (cb : ob.cls = .type "tuple") (db : ob.data = .seq ys k)
  (h : qG prog w A.in1 (decide (xs.size < ys.size)) Q (xs.toList.zip ys.toList) s) : wpAny (model prog w) A (richCompare .Lt (.ref a) (.ref b)) Q E s := by
 have Ta : s.TypeIs (.ref a) "tuple" := ⟨oa, ha, ca⟩
 have Tb : s.TypeIs (.ref b) "tuple" := ⟨ob, hb, cb⟩
 refine wpAny_richCompare_same_room (op := .Lt) Ta Tb PySem.F.slot_tuple_lt (wpAny_call_entry PySem.F.slot_tuple_lt Ta PySem.F.entry_tuple_lt ?_ (PySem.F.args_tuple_lt_2 _ _)) hu
 show wpAny _ _ (isInstance (.ref b) (.type "tuple") >>= _) _ _ s; refine wpAny_bind (wpAny_isInstance Tb isSubtype_tuple_tuple ?_)
 simp only [Bool.not_true, Bool.false_eq_true, if_false]
 refine wpAny_bind (wpAny_tupleItemsOf ha da (wpAny_bind (wpAny_tupleItemsOf hb db (wpAny_bind ?_))))
 refine wpAny_forIn_list _ (fun rest r s' => r.1 = none /\ qG prog w A.in1 (decide (xs.size < ys.size)) Q rest s') _ ?_ ?_ _ _ ⟨rfl, h⟩
 ·rintro ⟨x, y⟩ rest r s' ⟨hr, hl⟩
  refine wpAny_bind (wpAny_mono hl (fun e s2 he => ?_) fun _ _ z => z.elim)
  cases e with
  | true =>
   simp only [Bool.not_true, Bool.false_eq_true, if_false, if_true] at he ⊢
   exact wpAny_pure ⟨rfl, he⟩
  | false =>
   simp only [Bool.not_false, if_true, Bool.false_eq_true, if_false] at he ⊢
   refine wpAny_bind (wpAny_rule (wpAny_bind (wpAny_mono he (fun v s3 hv => ?_) fun _ _ z => z.elim)))
   exact wpAny_bind (wpAny_pure (wpAny_pure (wpAny_pure ⟨v, rfl, hv⟩)))
 ·rintro ⟨r1, r2⟩ s' ⟨hr, hl⟩
  obtain rfl : r1 = none := hr
  exact wpAny_pure ⟨_, rfl, nofun, hl⟩
theorem vj {p q : Pr} {a b : Addr} {Q : Value -> Shared -> Prop} (hu : A.units + 1 < cLine) (ha : IsTupleKey (aA prog w) s.heap (prK p) a) (hb : IsTupleKey (aA prog w) s.heap (prK q) b) (h : Q (.bool (ltP p q)) s) : wpAny (model prog w) A (richCompare .Lt (.ref a) (.ref b)) Q E s := by
 obtain ⟨oa, xs, n, h1, h2, h3, h4⟩ := ha
 obtain ⟨ob, ys, k, g1, g2, g3, g4⟩ := hb
 have shape : ∀ {p : Pr} {us : List Value}, ItemsAre (aA prog w) (prK p) us -> ∃ t t', us = [.str p.1 t, .int p.2 t'] := fun {p us} hi => by
  unfold prK at hi
  cases hi with
  | cons i1 r1 =>
   cases r1 with
   | cons i2 r2 =>
    cases r2
    obtain ⟨t, rfl⟩ := nW i1
    obtain ⟨t', rfl⟩ := nW i2
    exact ⟨t, t', rfl⟩
 obtain ⟨t1, t2, e1⟩ := shape h4
 obtain ⟨t3, t4, e2⟩ := shape g4
 have sx : xs.size = 2 := by rw [<- Array.length_toList, e1]; rfl
 have sy : ys.size = 2 := by rw [<- Array.length_toList, e2]; rfl
 refine nB (Nat.lt_of_succ_lt hu) h1 h2 h3 g1 g2 g3 ?_
 rw [e1, e2]
 show qG prog w A.in1 _ Q [(.str p.1 t1, .str q.1 t3), (.int p.2 t2, .int q.2 t4)] s
 refine wpAny_eqBool_str ?_
 unfold ltP at h
 by_cases c : p.1 = q.1
 ·rw [if_pos c] at h
  rw [decide_eq_true c, if_pos rfl]
  refine wpAny_eqBool_int ?_
  by_cases d : p.2 = q.2
  ·rw [d, decide_eq_false (Int.lt_irrefl _)] at h
   rw [show (p.2 == q.2) = true by rw [d]; exact beq_self_eq_true _, if_pos rfl]
   show Q (.bool (decide (xs.size < ys.size))) s
   rw [sx, sy]; exact h
  ·rw [show (p.2 == q.2) = false from beq_eq_false_iff_ne.mpr d, if_neg (by decide)]
   exact wpAny_lt_int ⟨nofun, h⟩
 ·rw [if_neg c] at h
  rw [decide_eq_false c, if_neg (by decide)]
  exact wpAny_richCompare_same (op := .Lt) (T := "str") (typeIs_str s _ _) (typeIs_str s _ _) PyProof.Rows.slot_str_lt (call_str_lt ⟨nofun, nofun, h⟩)
theorem vp {ps qs : List Pr} {a b : Addr} {Q : Value -> Shared -> Prop} (hu : A.units + 2 < cLine) (ha : cr prog w s.heap ps a) (hb : cr prog w s.heap qs b) (h : Q (.bool (ltK ps qs)) s) : wpAny (model prog w) A (richCompare .Lt (.ref a) (.ref b)) Q E s := by
 obtain ⟨oa, xs, n, h1, h2, h3, h4⟩ := ha
 obtain ⟨ob, ys, k, g1, g2, g3, g4⟩ := hb
 refine nB (by omega) h1 h2 h3 g1 g2 g3 ?_
 have lx := h4.tup
 have ly := g4.tup
 have ef : decide (xs.size < ys.size) = decide (ps.length < qs.length) := by rw [lx, ly, Array.length_toList, Array.length_toList]
 rw [ef]
 have key : ∀ {ps qs : List Pr} {us vs : List Value} {f : Bool}, bB prog w s.heap ps us -> bB prog w s.heap qs vs -> f = decide (ps.length < qs.length) -> Q (.bool (ltK ps qs)) s -> qG prog w A.in1 f Q (us.zip vs) s := by
  intro ps
  induction ps with
  | nil =>
   intro qs us vs f i1 i2 e q
   cases i1
   cases i2 with
   | nil => rw [e]; exact q
   | cons _ _ => rw [e]; exact q
  | cons p ps ih =>
   intro qs us vs f i1 i2 e q
   cases i1 with
   | @cons _ c _ us' x1 y1 =>
    cases i2 with
    | nil => rw [e]; exact q
    | @cons p2 c2 qs' vs' x2 y2 =>
     rw [List.zip_cons_cons]
     refine wpAny_eqBool_tuple (knd := aA prog w) (by show A.units + 1 < cLine; omega) x1 x2 ?_
     rw [ltK] at q
     by_cases z : p = p2
     ·rw [if_pos z] at q
      rw [decide_eq_true (by rw [z]), if_pos rfl]
      exact ih y1 y2 (by rw [e, List.length_cons, List.length_cons]; simp) q
     ·rw [if_neg z] at q
      rw [decide_eq_false (fun y => z (jH y)), if_neg (by decide)]
      exact vj (by show A.units + 1 + 1 < cLine; omega) x1 x2 ⟨nofun, q⟩
 exact key h4 g4 rfl h
theorem vC {x y a b : Addr} {ox oy : Obj} {n k : Nat} {ps qs : List Pr} {i j : Int} {t u : Tok} {Q : Bool -> Shared -> Prop} (hu : A.units + 2 < cLine) (hx : s.heap.get? x = some ox) (dx : ox.data = .seq #[.ref a, .int i t] n) (hy : s.heap.get? y = some oy) (dy : oy.data = .seq #[.ref b, .int j u] k) (ha : cr prog w s.heap ps a) (hb : cr prog w s.heap qs b)
  (same : ps = qs -> i = j) (h : Q (ltK ps qs) s) : wpAny (model prog w) A (keyLt' (tuples' false) (.ref x) (.ref y)) Q E s := by
 refine kat_lt hx dx hy dy ?_
 show KatLex _ _ _ _ _ _ [(Value.ref a, Value.ref b), (Value.int i t, Value.int j u)] 0 s
 refine kat_cons (tI (by omega) ha hb ?_)
 by_cases e : ps = qs
 ·rw [decide_eq_true e]
  refine kat_yes (kat_cons (wpAny_eqBool_int ?_))
  rw [show (i == j) = true by rw [same e]; exact beq_self_eq_true _]
  refine kat_yes (kat_nil ?_)
  rw [e, gA] at h
  exact h
 ·rw [decide_eq_false e]
  refine kat_no ?_
  rw [show (false && (0 == 0)) = false from rfl, oneLt'_eq]
  simp only [Bool.false_eq_true, if_false]
  exact wpAny_bind (vp hu ha hb (wpAny_truthy_bool h))
end
theorem jL {prog : Program} {w : World} {A : Around} {E : Value -> Shared -> Prop} {st : Shared} {l : Addr} {us : List Value} {ep : Nat} {R : PySem.Fin -> Shared -> Prop} {kd : SortKind} {M : Keyed -> Prop} {rk : Keyed -> Nat} (at0 : st.heap.get? l = some (seqObj "list" us.toArray ep)) (h2 : 2 <= us.length) (line : us.length <= sizeLine)
  (hk : ∀ hp : Heap, (∀ b o, b ≠ l -> st.heap.get? b = some o -> hp.get? b = some o) -> wpAny (model prog w) A (keyKind' us.toArray) (fun k s' => k = kd /\ s' = { st with heap := hp }) E { st with heap := hp } /\ TS.Ask prog w A { st with heap := hp } kd M rk) (Z : TS.Set0 M rk (us.zip us))
  (fin : ∀ hp ep' (ks : List Keyed), (∀ b o, b ≠ l -> st.heap.get? b = some o -> hp.get? b = some o) -> ks.Perm (us.zip us) -> TS.Up rk ks -> hp.get? l = some (seqObj "list" (ks.map (·.2)).toArray ep') -> R (.done (.ret .none)) { st with heap := hp }) :
  wpAny (model prog w) A (Builtin.«list.sort» ⟨[.ref l], []⟩) R E st := by
 have sz : us.toArray.size = us.length := by simp
 have lt0 : l < st.heap.objs.size := Heap.lt_size at0
 rw [list_sort_plain]
 refine wpAny_bind (listItems_at at0 rfl (wpAny_bind (listUpdate_at at0 rfl ?_ (by rw [sz]; exact line) (Nat.zero_le _))))
 have at1 := get?_update_seq at0 (fun _ => (#[] : Array Value))
 refine wpAny_bind (seqEpoch_at at1 rfl (wpAny_bind (wpAny_newTuple ?_ (by show us.length <= _; exact line))))
 refine wpAny_bind (wpAny_newList ?_ (Nat.zero_le _))
 refine wpAny_holding ?_
 rw [if_neg (by rw [sz]; omega), if_neg (by rw [sz]; omega)]
 show wpAny (model prog w) A _ R E { st with heap := ((st.heap.update l (Obj.mapSeq fun _ => (#[] : Array Value))).push (seqObj "tuple" us.toArray 0)).push (seqObj "list" #[] 0) }
 have at2 : (((st.heap.update l (Obj.mapSeq fun _ => (#[] : Array Value))).push (seqObj "tuple" us.toArray 0)).push (seqObj "list" #[] 0)).get? l = some (seqObj "list" #[] (if ((#[] : Array Value).size == us.toArray.size) = true then ep else ep + 1)) := by
  rw [Heap.get?_push_ne _ _ _ (by rw [size_push', Heap.size_update]; exact js lt0), Heap.get?_push_ne _ _ _ (by rw [Heap.size_update]; exact nlt lt0)]
  exact at1
 have kp : ∀ b o, b ≠ l -> st.heap.get? b = some o -> (((st.heap.update l (Obj.mapSeq fun _ => (#[] : Array Value))).push (seqObj "tuple" us.toArray 0)).push (seqObj "list" #[] 0)).get? b = some o := fun b o hb e => by
  rw [Heap.get?_push_ne _ _ _ (by rw [size_push', Heap.size_update]; exact js (Heap.lt_size e)), Heap.get?_push_ne _ _ _ (by rw [Heap.size_update]; exact nlt (Heap.lt_size e)), Heap.get?_update_ne _ _ _ _ hb]
  exact e
 generalize ((st.heap.update l (Obj.mapSeq fun _ => (#[] : Array Value))).push (seqObj "tuple" us.toArray 0)).push (seqObj "list" #[] 0) = hp at at2 kp
 obtain ⟨k1, O⟩ := hk hp kp
 refine wpAny_bind (wpAny_mono k1 (fun k s' hks => ?_) fun _ _ e => e)
 obtain ⟨rfl, rfl⟩ := hks
 have B : TS.SB k (us.zip us) #[] (SortSt.mk' k (us.toArray.zip us.toArray) #[] 7 none) := ⟨by show (us.toArray.zip us.toArray).toList.Perm (us.zip us); rw [show (us.toArray.zip us.toArray).toList = us.zip us from pairsOf_toList us], rfl, rfl, rfl⟩
 refine wpAny_bind (wpAny_mono (TS.runs_ok (Q := fun _ st' => (arrOf st').toList.Perm (us.zip us) /\ failedOf st' = none /\ TS.Up rk (arrOf st').toList) O Z B fun st' a1 a2 a3 => ⟨a1, a2, a3⟩) ?_ fun _ _ e => e)
 rintro ⟨⟨⟩, st'⟩ s' ⟨rfl, pm, hf, up⟩
 dsimp only
 refine wpAny_bind (seqEpoch_at at2 rfl ?_)
 have lo : ((arrOf st').map (·.2)).size = us.length := by rw [Array.size_map, <- Array.length_toList, pm.length_eq, List.length_zip, Nat.min_self]
 have at3 := get?_update_seq at2 (fun _ => (arrOf st').map (·.2))
 refine wpAny_bind (listUpdate_at at2 rfl ?_ (Nat.zero_le _) (by rw [lo]; omega))
 rw [hf]
 simp only [bne_self_eq_false, Bool.false_eq_true, if_false]
 have e3 : (arrOf st').map (·.2) = ((arrOf st').toList.map (·.2)).toArray := by apply Array.ext'; simp
 rw [e3] at at3 ⊢
 refine wpAny_pure (fin _ _ (arrOf st').toList (fun b o hb e => ?_) pm up at3)
 rw [Heap.get?_update_ne _ _ _ _ hb]
 exact kp b o hb e
section
variable {X : Cx} {pins : List (Addr × Obj)} {σ : St} {H : Hp} {s : Shared}
abbrev TV := Addr × List V
def laysV (H : Hp) (rs : List TV) : Hp := fun b => match rs.find? (fun r => decide (r.1 = b)) with | some r => some (.tup r.2) | none => H b
theorem gb {rs : List TV} {b : Addr} (h : ∀ r ∈ rs, r.1 ≠ b) : laysV H rs b = H b := by
 unfold laysV
 rw [List.find?_eq_none.mpr (fun r hr e => h r hr (of_decide_eq_true e))]
theorem kZ {rs : List TV} (nd : (rs.map (·.1)).Nodup) {r : TV} (hr : r ∈ rs) : laysV H rs r.1 = some (.tup r.2) := by
 unfold laysV
 cases e : rs.find? (fun x => decide (x.1 = r.1)) with
 | none => exact absurd (decide_eq_true rfl) (List.find?_eq_none.mp e r hr)
 | some x =>
  have hx := List.mem_of_find?_eq_some e
  have e1 : x.1 = r.1 := of_decide_eq_true (List.find?_some (p := fun x : TV => decide (x.1 = r.1)) e)
  obtain ⟨i, hi, rfl⟩ := List.getElem_of_mem hx
  obtain ⟨j, hj, rfl⟩ := List.getElem_of_mem hr
  have : i = j := (List.getElem_inj (h₀ := by simpa using hi) (h₁ := by simpa using hj) nd).mp (by simpa using e1)
  subst this
  rfl
theorem Inv.laysV {h' : Heap} {tk : Nat} {rs : List TV} (I : Inv X pins σ H s) (k : ∀ b u, s.heap.get? b = some u -> h'.get? b = some u) (nd : (rs.map (·.1)).Nodup) (hp : ∀ r ∈ rs, s.heap.objs.size <= r.1)
  (new : ∀ r ∈ rs, aU X.prog X.w (L2.laysV H rs) h' r.1 (.tup r.2)) : Inv X pins σ (L2.laysV H rs) { s with heap := h', toks := tk } := by
 have out : ∀ b, b < s.heap.objs.size -> L2.laysV H rs b = H b := fun b hb => gb fun r hr e => absurd hb (Nat.not_lt.mpr (e ▸ hp r hr))
 refine I.un (t' := tk) ⟨fun b u q _ _ _ => k b u q, fun b u q _ _ _ => ⟨u.slots, k b u q⟩, fun b u q n _ => by rw [out b (Heap.lt_size q)]; exact n, fun b u q _ => ⟨u, k b u q⟩, fun b xs q => by rw [out b (I.hok.lt q)]; exact q, fun b u xs q => by rw [out b (I.hok.lt q)]; exact q,
  fun b ps q => ⟨#[], by rw [out b (I.hok.lt q), q]; simp⟩⟩ fun b u e => ?_
 by_cases hb : ∃ r ∈ rs, r.1 = b
 ·obtain ⟨r, hr, rfl⟩ := hb
  rw [kZ nd hr] at e
  cases e
  exact new r hr
 ·rw [gb fun r hr z => hb ⟨r, hr, z⟩] at e
  exact (I.hok b u e).stay (fun c v _ q => k c v q) (fun c q => by rw [out c (I.hok.lt q)]; exact q) fun c xs q => by rw [out c (I.hok.lt q)]; exact q
theorem mB (rs : List TV) : aF (rs.map fun p => V.ref p.1) (rs.map fun p => Value.ref p.1) := by
 induction rs with
 | nil => exact .nil
 | cons p ps ih => exact .cons rfl ih
end
theorem bB.mv {P : Program} {w : World} {h h' : Heap} (k : ∀ b o, h.get? b = some o -> o.cls = .type "tuple" -> h'.get? b = some o) : ∀ {ps : List Pr} {vs : List Value}, bB P w h ps vs -> bB P w h' ps vs
 | _, _, .nil => .nil
 | _, _, .cons x y => .cons (let ⟨o, its, n, e, c, d⟩ := x; ⟨o, its, n, k _ _ e c, c, d⟩) (bB.mv k y)
theorem cr.mv {P : Program} {w : World} {h h' : Heap} {ps : List Pr} {a : Addr} (x : cr P w h ps a) (k : ∀ b o, h.get? b = some o -> o.cls = .type "tuple" -> h'.get? b = some o) : cr P w h' ps a := by
 obtain ⟨o, its, n, e, c, d, i⟩ := x
 exact ⟨o, its, n, k _ _ e c, c, d, i.mv k⟩
theorem qP {α β : Type} (f : α -> β) {l k : List β} (h : l.Perm k) : ∀ {m : List α}, k = m.map f -> ∃ m' : List α, m'.Perm m /\ l = m'.map f := by
 induction h with
 | nil => intro m e; exact ⟨[], by rw [List.map_eq_nil_iff.mp e.symm], rfl⟩
 | cons x _ ih =>
  intro m e
  cases m with
  | nil => cases e
  | cons a m =>
   injection e with e1 e2
   obtain ⟨m', p, rfl⟩ := ih e2
   exact ⟨a :: m', p.cons a, by rw [List.map_cons, e1]⟩
 | swap x y l =>
  intro m e
  match m, e with
  | a :: b :: m, e =>
   injection e with e1 e2
   injection e2 with e2 e3
   exact ⟨b :: a :: m, List.Perm.swap a b m, by rw [List.map_cons, List.map_cons, e1, e2, e3]⟩
 | trans _ _ ih1 ih2 =>
  intro m e
  obtain ⟨m2, p2, e2⟩ := ih2 e
  obtain ⟨m1, p1, e1⟩ := ih1 e2
  exact ⟨m1, p1.trans p2, e1⟩
abbrev IT := Addr × Addr × PM
structure sP (K : PySem.W.Frag) (H : Hp) (t : IT) : Prop where
 at_ : H t.1 = some (.tup [.ref t.2.1, .int t.2.2.2])
 key : cF K H t.2.2.1 t.2.1
section
variable {X : Cx} {pins : List (Addr × Obj)} {σ : St} {H : Hp} {s : Shared}
theorem rm {A : Around} {E : Value -> Shared -> Prop} {l : Addr} {ts : List IT} {Q : Value -> Shared -> Prop} (hu : A.units + 3 < cLine) (I : Inv X pins σ H s) (hq : H l = some (.lst (ts.map fun t => V.ref t.1))) (hT : ∀ t ∈ ts, sP X.K H t) (nd : (ts.map fun t => t.2.2.1).Nodup) (hl : ts.length <= 100000)
  (q : ∀ (ts' : List IT) (h' : Heap), ts'.Perm ts -> ts'.Pairwise (fun a b => ltK a.2.2.1 b.2.2.1 = true) -> Inv X pins σ (upd H l (.lst (ts'.map fun t => V.ref t.1))) { s with heap := h' } -> Q .none { s with heap := h' }) :
  wpAny (model X.prog X.w) A (call (.builtin "list.sort") [.ref l]) Q E s := by
 obtain ⟨hz, its, n, rv, at0⟩ := (show aU X.prog X.w H s.heap l (.lst (ts.map fun t => V.ref t.1)) from I.hok l _ hq)
 have ei : its = ts.map fun t => Value.ref t.1 := by
  have : ∀ (ts : List IT) (us : List Value), aF (ts.map fun p => V.ref p.1) us -> us = ts.map fun p => Value.ref p.1 := by
   intro ts
   induction ts with
   | nil => intro us r; cases r; rfl
   | cons p ps ih =>
    intro us r
    rw [List.map_cons] at r ⊢
    cases r with
    | cons r t => rw [ih _ t, show _ = Value.ref p.1 from r]
  exact this ts its rv
 subst ei
 have vr : ∀ ts : List IT, aF (ts.map fun p => V.ref p.1) (ts.map fun p => Value.ref p.1) := by
  intro ts
  induction ts with
  | nil => exact .nil
  | cons p ps ih => exact .cons rfl ih
 obtain ⟨m, hm, _⟩ := I.loc
 have nL : l ≠ X.env.locals := fun z => by rw [z, I.free] at hq; cases hq
 have ll : (ts.map fun t => Value.ref t.1).length = ts.length := List.length_map _
 by_cases few : ts.length < 2
 ·refine wpAny_call_entry slot_list_sort ⟨_, at0, rfl⟩ entry_list_sort (eU at0 (by simpa using few) fun hp ep k2 e2 => ⟨_, rfl, ?_⟩) (args_list_sort _)
  refine q ts hp (List.Perm.refl _) ?_ (I.setList hm hq (vr ts) hz (hm.at' fun o e => k2 _ o (Ne.symm nL) e) (fun b o _ hb z => k2 b o hb z) e2)
  match ts, few with
  | [], _ => exact .nil
  | [p], _ => exact List.pairwise_singleton _ _
 have obj : ∀ t ∈ ts, ∃ (o : Obj) (k : Nat) (tk : Tok), s.heap.get? t.1 = some o /\ o.cls = .type "tuple" /\ o.data = .seq #[.ref t.2.1, .int t.2.2.2 tk] k /\ t.1 ≠ l := fun t ht => by
  have x := hT t ht
  obtain ⟨_, us, ru, ⟨o, e, c, k, d⟩, _⟩ := (show aU X.prog X.w H s.heap t.1 (.tup [.ref t.2.1, .int t.2.2.2]) from I.hok _ _ x.at_)
  cases ru with
  | cons r1 r2 =>
   cases r2 with
   | cons r2 r3 =>
    cases r3
    cases r1
    obtain ⟨tk, rfl⟩ := r2
    exact ⟨o, k, tk, e, c, d, fun z => by have y := x.at_; rw [z, hq] at y; cases y⟩
 have pk : ∀ t ∈ ts, cr X.prog X.w s.heap t.2.2.1 t.2.1 := fun t ht => jI I (hT t ht).key
 have uniq : ∀ t ∈ ts, ∀ t' ∈ ts, t.1 = t'.1 -> t.2.2 = t'.2.2 := fun t ht t' ht' e => by
  have a1 := (hT t ht).at_
  have a2 := (hT t' ht').at_
  rw [e, a2] at a1
  injection a1 with a1
  injection a1 with a1
  injection a1 with a1 a3
  injection a1 with a1
  injection a3 with a3 _
  injection a3 with a3
  have p1 := pk t ht
  rw [<- a1] at p1
  exact Prod.ext (p1.inj (pk t' ht')) a3.symm
 have kuniq : ∀ t ∈ ts, ∀ t' ∈ ts, t.2.2.1 = t'.2.2.1 -> t = t' := fun t ht t' ht' e => by
  obtain ⟨i, hi, rfl⟩ := List.getElem_of_mem ht
  obtain ⟨j, hj, rfl⟩ := List.getElem_of_mem ht'
  have : i = j := (List.getElem_inj (h₀ := by simpa using hi) (h₁ := by simpa using hj) nd).mp (by simpa using e)
  subst this; rfl
 obtain ⟨key, hkey⟩ : ∃ key : Keyed -> List Pr, ∀ t ∈ ts, key (Value.ref t.1, Value.ref t.1) = t.2.2.1 := by
  refine ⟨fun x => open Classical in if h : ∃ t ∈ ts, x.1 = Value.ref t.1 then (Classical.choose h).2.2.1 else [], fun t ht => ?_⟩
  have h : ∃ t' ∈ ts, (Value.ref t.1, Value.ref t.1).1 = Value.ref t'.1 := ⟨t, ht, rfl⟩
  dsimp only
  rw [dif_pos h]
  obtain ⟨h1, h2⟩ := Classical.choose_spec h
  injection h2 with h2
  rw [uniq t ht _ h1 h2]
 generalize hks : ts.map (fun t => t.2.2.1) = ks at nd
 have mk : ∀ t ∈ ts, t.2.2.1 ∈ ks := fun t ht => by rw [<- hks]; exact List.mem_map_of_mem (f := fun t : IT => t.2.2.1) ht
 let rk : Keyed -> Nat := fun x => ks.countP fun z => ltK z (key x)
 have hrk : ∀ t ∈ ts, ∀ t' ∈ ts, decide (rk (Value.ref t.1, Value.ref t.1) < rk (Value.ref t'.1, Value.ref t'.1)) = ltK t.2.2.1 t'.2.2.1 := fun t ht t' ht' => by
  show decide (ks.countP (fun z => ltK z (key _)) < ks.countP fun z => ltK z (key _)) = _
  rw [hkey t ht, hkey t' ht']
  exact sJ (mk t ht) (mk t' ht')
 have ez : (ts.map fun t => Value.ref t.1).zip (ts.map fun t => Value.ref t.1) = ts.map fun t => (Value.ref t.1, Value.ref t.1) := by
  rw [List.zip_map', ]
 refine wpAny_call_entry slot_list_sort ⟨_, at0, rfl⟩ entry_list_sort (jL (kd := tuples' false) (M := fun x => ∃ t ∈ ts, x = (Value.ref t.1, Value.ref t.1)) (rk := rk) at0 (by rw [ll]; omega) (by rw [ll, sizeLine_eq]; omega) (fun hp kp => ⟨?K, ?O⟩) ?Z fun hp ep ks' k2 pm up e2 => ⟨_, rfl, ?F⟩) (args_list_sort _)
 case K =>
  have firsts : ∀ (qs : List IT), (∀ t ∈ qs, t ∈ ts) -> KatTups hp (qs.map fun t => Value.ref t.1) (qs.map fun t => Value.ref t.2.1) := by
   intro qs
   induction qs with
   | nil => intro _; exact KatTups.nil
   | cons t qs ih =>
    intro hs
    obtain ⟨o, k, tk, e, c, d, ne⟩ := obj t (hs t List.mem_cons_self)
    exact KatTups.cons (kp _ o ne e) c d rfl (ih fun x hx => hs x (List.mem_cons_of_mem _ hx))
  refine kat_kind (T := .type "tuple") (s := { s with heap := hp }) (firsts ts fun _ h => h) (by rw [List.length_map]; omega) (fun v hv => ?_) (by decide) ⟨rfl, rfl⟩
  obtain ⟨t, ht, rfl⟩ := List.mem_map.mp hv
  obtain ⟨o, _, _, e, c, _⟩ := pk t ht
  have nl : t.2.1 ≠ l := fun z => by rw [z, at0] at e; injection e with e; rw [<- e] at c; exact absurd (show Value.type "list" = Value.type "tuple" from c) (by decide)
  exact fun A Q E s' kk q => wpAny_typeOf (T := "tuple") ⟨o, kk _ _ (kp _ o nl e), c⟩ q
 case O =>
  rintro x y C E' ⟨t, ht, rfl⟩ ⟨t', ht', rfl⟩ hC
  obtain ⟨o, k, tk, e, c, d, ne⟩ := obj t ht
  obtain ⟨o', k', tk', e', c', d', ne'⟩ := obj t' ht'
  have mv : ∀ b o, s.heap.get? b = some o -> o.cls = .type "tuple" -> hp.get? b = some o := fun b o e c => kp b o (fun z => by rw [z, at0] at e; injection e with e; rw [<- e] at c; exact absurd (show Value.type "list" = Value.type "tuple" from c) (by decide)) e
  refine vC (s := { s with heap := hp }) (by show A.units + 1 + 2 < cLine; omega) (kp _ o ne e) d (kp _ o' ne' e') d' ((pk t ht).mv mv) ((pk t' ht').mv mv) (fun z => by rw [kuniq t ht t' ht' z]) ?_
  rw [hrk t ht t' ht'] at hC
  exact hC
 case Z =>
  rw [ez]
  refine ⟨fun u hu => ?_, ?_⟩
  ·obtain ⟨t, ht, rfl⟩ := List.mem_map.mp hu
   exact ⟨t, ht, rfl⟩
  ·rw [List.map_map, List.Nodup, List.pairwise_map, List.pairwise_iff_getElem]
   intro i j hi hj hij e
   have m1 : ts[i] ∈ ts := List.getElem_mem hi
   have m2 : ts[j] ∈ ts := List.getElem_mem hj
   have a1 := hrk _ m1 _ m2
   have a2 := hrk _ m2 _ m1
   have e' : rk (Value.ref ts[i].1, Value.ref ts[i].1) = rk (Value.ref ts[j].1, Value.ref ts[j].1) := e
   rw [e', decide_eq_false (Nat.lt_irrefl _)] at a1 a2
   have ne : ts[i].2.2.1 ≠ ts[j].2.2.1 := fun z => by
    rw [<- hks] at nd
    have : i = j := (List.getElem_inj (h₀ := by simpa using hi) (h₁ := by simpa using hj) nd).mp (by simpa using z)
    omega
   rw [fJ ne a1.symm] at a2
   cases a2
 case F =>
  rw [ez] at pm
  obtain ⟨ts', p', rfl⟩ := qP (fun t : IT => (Value.ref t.1, Value.ref t.1)) pm rfl
  have e3 : (ts'.map fun t => (Value.ref t.1, Value.ref t.1)).map (·.2) = ts'.map fun t => Value.ref t.1 := by rw [List.map_map]; rfl
  rw [e3] at e2
  refine q ts' hp p' ?_ (I.setList hm hq (vr ts') (by rw [List.length_map, p'.length_eq, sizeLine_eq]; omega) (hm.at' fun o e => k2 _ o (Ne.symm nL) e) (fun b o _ hb z => k2 b o hb z) e2)
  rw [TS.Up, List.pairwise_map] at up
  have nd' : (ts'.map fun t => t.2.2.1).Nodup := (p'.map fun t : IT => t.2.2.1).nodup_iff.mpr (by rw [hks]; exact nd)
  rw [List.pairwise_iff_getElem] at up ⊢
  intro i j hi hj hij
  have m1 : ts'[i] ∈ ts := p'.mem_iff.mp (List.getElem_mem hi)
  have m2 : ts'[j] ∈ ts := p'.mem_iff.mp (List.getElem_mem hj)
  have u := up i j hi hj hij
  cases h : ltK ts'[i].2.2.1 ts'[j].2.2.1 with
  | true => rfl
  | false =>
   have ne : ts'[i].2.2.1 ≠ ts'[j].2.2.1 := fun z => by
    have : i = j := (List.getElem_inj (h₀ := by simpa using hi) (h₁ := by simpa using hj) nd').mp (by simpa using z)
    omega
   have a := hrk _ m2 _ m1
   rw [fJ ne h] at a
   exact absurd (of_decide_eq_true a) (Nat.not_lt.mpr u)
end
section
variable {X : Cx}
theorem mZ {K : PySem.W.Frag} {H : Hp} : ∀ {ts : List IT}, (∀ t ∈ ts, sP K H t) -> Paired (TmR K H) (ts.map fun t => t.2.2) (ts.map fun t => V.ref t.1)
 | [], _ => .nil
 | t :: ts, h => by
  have x := h t List.mem_cons_self
  exact .cons ⟨t.1, t.2.1, rfl, .of x.at_, x.key⟩ (mZ fun x hx => h x (List.mem_cons_of_mem _ hx))
theorem ft (hc : X.calm = true) (hu : X.A.units + 10 < cLine) : cA X (.builtin "sorted") (fun xs H Q => ∃ (v d : Addr) (m : List PM), xs = [.ref v] /\ H v = some (eA v d) /\ Dp X.K X.prog X.w H d m /\
  ∀ (H' : Hp) (l : Addr) (us : List V) (m' : List PM), az H H' -> H l = none -> H' l = some (.lst us) -> Paired (TmR X.K H') m' us -> m'.Perm m -> m'.Pairwise (fun p q => ltK p.1 q.1 = true) -> Q (.ref l) H') := by
 intro pins s σ H xs us Q I r h
 obtain ⟨v, d, m, rfl, hv, hd, q⟩ := h
 obtain ⟨u, rfl, ru⟩ := cT r
 cases ru
 obtain ⟨vw, _, _⟩ := (show aU X.prog X.w H s.heap v (eA v d) from I.hok v _ hv)
 obtain ⟨ys, _, sm, lm, pv, ⟨od, es, ep, o1, o2, o3, o4, _, _⟩, ndy⟩ := iW I hd
 obtain ⟨_, _, _, _, ndm, _⟩ := id hd
 have ly := qE pv
 have le : es.size = m.length := by rw [<- Array.length_toList, o4, List.length_map, ly]
 refine Calls.call_function_entry kind_sorted plain_sorted entry_sorted (args_sorted1 _) ?_
 unfold Builtin.«sorted»
 refine wpAny_bind (m := checkCount "sorted" 1 1 _) (wpAny_pure (wpAny_bind (iF (A := X.A.in1) (es := es) (ep := ep) (I.ok.hd hc) vw ⟨od, o1, o2, o3⟩ (by rw [le, sizeLine_eq]; omega) fun h' tk as hk hl hG => ?_)))
 have la : as.length = m.length := by rw [hl, le]
 generalize hts : (as.zip (m.zip ys)).map (fun z => ((z.1, z.2.2.2.1, z.2.1) : IT)) = ts
 have lts : ts.length = m.length := by rw [<- hts, List.length_map, List.length_zip, List.length_zip]; omega
 have e1 : ts.map (·.1) = as := by
  rw [<- hts, List.map_map]
  have : ((fun x : IT => x.1) ∘ fun z : Addr × PM × PX => ((z.1, z.2.2.2.1, z.2.1) : IT)) = Prod.fst := rfl
  rw [this, List.map_fst_zip (by rw [List.length_zip]; omega)]
 have e2 : ts.map (·.2.2) = m := by
  rw [<- hts, List.map_map]
  have : ((fun x : IT => x.2.2) ∘ fun z : Addr × PM × PX => ((z.1, z.2.2.2.1, z.2.1) : IT)) = (fun z : PM × PX => z.1) ∘ Prod.snd := rfl
  rw [this, <- List.map_map, List.map_snd_zip (by rw [List.length_zip]; omega)]
  exact List.map_fst_zip (by omega)
 have pairs : ∀ t ∈ ts, ∃ tk' : Tok, h'.get? t.1 = some { cls := .type "tuple", data := .seq #[.ref t.2.1, .int t.2.2.2 tk'] } /\ cF X.K H t.2.2.1 t.2.1 := fun t ht => by
  rw [<- hts] at ht
  obtain ⟨⟨a, p, y⟩, hz, rfl⟩ := List.mem_map.mp ht
  obtain ⟨j, hj⟩ := List.getElem?_of_mem hz
  obtain ⟨ha, hz2⟩ := List.getElem?_zip_eq_some.mp hj
  obtain ⟨hm, hy⟩ := List.getElem?_zip_eq_some.mp hz2
  obtain ⟨e, g1, g2⟩ := hG.pairs j a ha
  have ge : es[j]? = some (entryOfKey (fe X.prog X.w) y) := by rw [<- Array.getElem?_toList, o4, List.getElem?_map, hy]; rfl
  rw [ge] at g1
  cases g1
  have at_ : ∀ {m : List PM} {ys : List PX}, Paired (pvR X.K H) m ys -> ∀ {j : Nat} {p : PM} {y : PX}, m[j]? = some p -> ys[j]? = some y -> pvR X.K H p y := by
   intro m ys pv
   induction pv with
   | nil => intro j p y h _; simp at h
   | cons r t ih =>
    intro j p y h1 h2
    cases j with
    | zero => cases h1; cases h2; exact r
    | succ j => exact ih h1 h2
  obtain ⟨_, rr, tk', ev⟩ := at_ pv hm hy
  refine ⟨tk', ?_, rr⟩
  show h'.get? a = some { cls := .type "tuple", data := .seq #[.ref y.2.1, .int p.2 tk'] }
  rw [g2, <- ev]; rfl
 have nda : (ts.map (·.1)).Nodup := by rw [e1]; exact hG.rise.imp fun h => Nat.ne_of_lt h
 have above : ∀ t ∈ ts, s.heap.objs.size <= t.1 := fun t ht => Nat.le_of_lt (hG.above t.1 (by rw [<- e1]; exact List.mem_map_of_mem (f := fun t : IT => t.1) ht))
 generalize hrs : ts.map (fun t => ((t.1, [V.ref t.2.1, V.int t.2.2.2]) : TV)) = rs
 have er : rs.map (·.1) = ts.map (·.1) := by rw [<- hrs, List.map_map]; rfl
 have inr : ∀ r ∈ rs, ∃ t ∈ ts, r = (t.1, [V.ref t.2.1, V.int t.2.2.2]) := fun r hr => by rw [<- hrs] at hr; obtain ⟨t, ht, rfl⟩ := List.mem_map.mp hr; exact ⟨t, ht, rfl⟩
 have I1 : Inv X pins σ (laysV H rs) { s with heap := h', toks := tk } := I.laysV hk (by rw [er]; exact nda) (fun r hr => by obtain ⟨t, ht, rfl⟩ := inr r hr; exact above t ht) fun r hr => by
  obtain ⟨t, ht, rfl⟩ := inr r hr
  obtain ⟨tk', g, _⟩ := pairs t ht
  exact ⟨by show 2 <= sizeLine; rw [sizeLine_eq]; decide, [.ref t.2.1, .int t.2.2.2 tk'], .cons rfl (.cons ⟨tk', rfl⟩ .nil), ⟨_, g, rfl, 0, rfl⟩, ⟨_, g, rfl⟩⟩
 have s1 : az H (laysV H rs) := fun b o e => by
  rw [gb fun r hr z' => by
   obtain ⟨t, ht, rfl⟩ := inr r hr
   have h1 := above t ht
   rw [show t.1 = b from z'] at h1
   exact absurd (I.hok.lt e) (Nat.not_lt.mpr h1)]
  exact e
 refine wpAny_bind (wpAny_newList ?_ (by rw [List.length_map, la, sizeLine_eq]; omega))
 have ev : as.map Value.ref = rs.map fun p => Value.ref p.1 := by rw [<- e1, <- er, List.map_map]; rfl
 rw [ev]
 have I2 := I1.lnew (t' := tk) (its := rs.map fun p => Value.ref p.1) (mB rs) (by rw [List.length_map, <- List.length_map (f := (·.1)) (as := rs), er, List.length_map, lts, sizeLine_eq]; omega)
 have fr : laysV H rs h'.objs.size = none := I1.fresh
 have hnone : H h'.objs.size = none := by
  cases e : H h'.objs.size with
  | none => rfl
  | some o => have := s1 _ _ e; rw [fr] at this; cases this
 have ev2 : (rs.map fun p => V.ref p.1) = ts.map fun t => V.ref t.1 := by rw [<- hrs, List.map_map]; rfl
 rw [ev2] at I2
 have okT : ∀ t ∈ ts, sP X.K (laysV H rs) t := fun t ht => by
  obtain ⟨_, _, rr⟩ := pairs t ht
  refine ⟨?_, rr.mono s1⟩
  have := kZ (H := H) (by rw [er]; exact nda) (r := (t.1, [V.ref t.2.1, V.int t.2.2.2])) (by rw [<- hrs]; exact List.mem_map_of_mem (f := fun t : IT => ((t.1, [V.ref t.2.1, V.int t.2.2.2]) : TV)) ht)
  exact this
 have s2 : ∀ o, az (laysV H rs) (upd (laysV H rs) h'.objs.size o) := fun o => ah fr _
 have okS : ∀ o, ∀ t ∈ ts, sP X.K (upd (laysV H rs) h'.objs.size o) t := fun o t ht => ⟨s2 o _ _ (okT t ht).at_, (okT t ht).key.mono (s2 o)⟩
 have ndk : (ts.map fun t => t.2.2.1).Nodup := by
  have : ts.map (fun t => t.2.2.1) = m.map (·.1) := by rw [<- e2, List.map_map]; rfl
  rw [this]; exact ndm
 refine wpAny_bind (wpAny_holding (rm (A := X.A.in1) (l := h'.objs.size) (ts := ts) (by show X.A.units + 1 + 3 < cLine; omega) I2 ad (okS _) ndk (by omega) fun ts' h2 pq pw I3 => ?_))
 rw [jq] at I3
 refine wpAny_pure ⟨_, rfl, .ref h'.objs.size, _, I3, rfl, q _ _ _ (ts'.map (·.2.2)) (s1.trans (s2 _)) hnone ad ?_ (by rw [<- e2]; exact pq.map _) (by rw [List.pairwise_map]; exact pw)⟩
 exact mZ fun t ht => okS _ t (pq.mem_iff.mp ht)
end
open PySem PySem.Spec PyProof.Rows PySem.W
theorem eG {h h' : Heap} {a : Addr} {items : Array Value} (x : IsTup h a items) (e : ∀ o, h.get? a = some o -> h'.get? a = some o) : IsTup h' a items := let ⟨o, ho, r⟩ := x; ⟨o, e _ ho, r⟩
theorem pH {prog : Program} {w : World} {A : Around} (hh : A.handled = none) (I t : Addr) (hne : t ≠ I) (items : Array Value) (hfit : (items.size : Int) < 2 ^ 63) :
  Walks prog w A I [I, t] [I] items.size (fun i v => items[items.size - 1 - i]? = some v) (fun i h => i <= items.size /\ fb h I t ((items.size : Int) - 1 - (i : Int)) /\ IsTup h t items) where
 sub := fun b hb => by simp at hb; simp [hb]
 frame := fun _ _ _ x hk => ⟨x.1, x.2.1.at' fun o e => hk I (by simp) o e, eG x.2.2 fun o e => hk t (by simp) o e⟩
 item := fun i s Q E hi x hQ => by
  have e : (items.size : Int) - 1 - (i : Int) = ((items.size - 1 - i : Nat) : Int) := by omega
  have hit := x.2.1
  rw [e] at hit
  have hx : items[items.size - 1 - i]? = some (items[items.size - 1 - i]'(by omega)) := Array.getElem?_eq_getElem (by omega)
  refine sV hit x.2.2 hx hfit fun h' tk hit' hs' => ?_
  have e2 : ((items.size - 1 - i : Nat) : Int) - 1 = (items.size : Int) - 1 - ((i + 1 : Nat) : Int) := by omega
  rw [e2] at hit'
  exact hQ _ h' tk hx ⟨hi, hit', eG x.2.2 fun o eo => (hs'.2 t hne).trans eo⟩ fun b o hb eo => hs'.extBut b o (fun h => hb (by simp [h])) eo
 done := fun s Q E x hQ => by
  have e : (items.size : Int) - 1 - (items.size : Int) = -1 := by omega
  have hit := x.2.1
  rw [e] at hit
  exact uT hh hit fun h' tk he => hQ h' tk fun b o hb eo => he b o (fun h => hb (by simp [h])) eo
 self := fun _ _ _ _ x hQ => nj x.2.1 hQ
section
variable {prog : Program} {w : World} {A : Around} {E : Value -> Shared -> Prop} {s : Shared} {r l S : Addr} {items : Array Value}
theorem rp : typeLookup (.type "reversed") "__len__" = pure none := by rw [typeLookup_type, builtinLookup_eq_fast]; kernel_rfl
theorem sK : typeLookup (.type "reversed") "__length_hint__" = pure (some (.builtin "reversed.__length_hint__")) := by rw [typeLookup_type, builtinLookup_eq_fast]; kernel_rfl
theorem jm : Slot "reversed" "__length_hint__" "reversed.__length_hint__" := Slot.of (owner := "reversed") (n := "__length_hint__") (by rw [typeLookup_type, builtinLookup_eq_fast]; kernel_rfl) (by decide +kernel) (by decide +kernel) (by decide +kernel) (by first | exact .inl (by decide +kernel) | exact .inr (by decide +kernel)) (by rw [isSubtype_type]; kernel_rfl)
theorem iD : entryFor table "reversed.__length_hint__" = some Builtin.«reversed.__length_hint__» := entryFor_of_tree (by kernel_rfl)
theorem jf (a : Value) : argsOk "reversed.__length_hint__" ⟨[a], []⟩ := by unfold argsOk; kernel_rfl
theorem jy : typeOf (.builtin "reversed.__length_hint__") = pure (.type "method_descriptor") := by show builtinType _ = _; rw [builtinType_eq_fast]; kernel_rfl
theorem jg {Q : Value -> Shared -> Prop} (hfit : (items.size : Int) < 2 ^ 63) (hr : fb s.heap r l ((items.size : Int) - 1)) (hl : IsTup s.heap l items) (h : ∀ t tk, Q (.int items.size t) { s with toks := tk }) : wpAny (model prog w) A (call (.builtin "reversed.__length_hint__") [.ref r]) Q E s := by
 refine wpAny_call_entry jm hr.ty iD ?_ (jf _)
 obtain ⟨o, ho, hc, hd⟩ := id hr
 unfold Builtin.«reversed.__length_hint__»
 refine wpAny_bind (wpAny_of_eq (a := Value.ref r) rfl ?_)
 refine wpAny_bind (wpAny_field ho hd (x := .ref l) rfl ?_)
 rw [if_neg (by intro z; cases z)]
 refine wpAny_bind (len_tuple hl hfit ?_)
 refine wpAny_bind (wpAny_of_eq (a := some (items.size : Int)) rfl ?_)
 refine wpAny_bind (wpAny_field ho hd (x := rawInt ((items.size : Int) - 1)) rfl ?_)
 show wpAny _ _ (if (items.size : Int) < (items.size : Int) - 1 + 1 then _ else _) _ _ _
 rw [if_neg (by omega)]
 rw [show (items.size : Int) - 1 + 1 = items.size by omega]
 refine wpAny_bind (wpAny_mkInt (wpAny_pure ⟨_, rfl, h _ _⟩))
theorem qH {Q : Bool -> Shared -> Prop} (hfit : (items.size : Int) < 2 ^ 63) (hn : items.size <= sizeLine) (hr : fb s.heap r l ((items.size : Int) - 1)) (hl : IsTup s.heap l items) (h : ∀ b tk, Q b { s with toks := tk }) : wpAny (model prog w) A (Builtin.List.listLengthHint (.ref r)) Q E s := by
 unfold Builtin.List.listLengthHint
 refine wpAny_bind (wpAny_specialOf hr.ty rp ?_)
 show wpAny _ A (specialOf (Value.ref r) (Str.ofString "__length_hint__") >>= _) _ _ _
 refine wpAny_bind (wpAny_specialOf hr.ty sK ?_)
 generalize hid : ("reversed.__length_hint__" : String) = id0
 wp_delta
 rw [show splitId id0 = some ("reversed", "__length_hint__") from by subst hid; decide +kernel]
 subst hid
 refine wpAny_bind (wpAny_isInstance (b := true) hr.ty (by rw [isSubtype_type]; kernel_rfl) ?_)
 rw [if_neg (by decide)]
 refine wpAny_bind (wpAny_rule ?_)
 refine wpAny_bind (m := bindSpecial _ _) ?_
 unfold bindSpecial
 refine wpAny_bind (wpAny_of_eq jy ?_)
 rw [if_pos (by decide)]
 refine wpAny_pure ?_
 refine wpAny_bind (wpAny_attempt (jg hfit hr hl fun t tk => ?_))
 dsimp only
 have z0 : 0 <= (items.size : Int) := Int.natCast_nonneg _
 have z1 : (items.size : Int).toNat <= sizeLine := by rw [Int.toNat_natCast]; exact hn
 generalize (items.size : Int) = z at hfit z0 z1 ⊢
 refine wpAny_bind (m := asInt? (.int z t)) (wpAny_pure ?_)
 dsimp only
 have f1 : Builtin.List.listFitsIndex z = true := by unfold Builtin.List.listFitsIndex; simp; omega
 rw [f1, if_neg (by decide), if_neg (by omega), if_neg (by unfold Builtin.List.listTooLong; simp; omega)]
 exact wpAny_pure (h _ _)
theorem me {R : Result -> Shared -> Prop} (hh : A.handled = none) (hfit : (items.size : Int) < 2 ^ 63) (hr : fb s.heap r l ((items.size : Int) - 1)) (hl : IsTup s.heap l items) (hlr : l ≠ r) (hSr : S ≠ r) (hSl : S ≠ l) (res : Value) (c₀ : Nat) (hS : s.heap.get? S = some { cls := .type "list", data := .seq #[] c₀ })
  (hR : ∀ h' tk acc' c', (∀ b o, b ≠ S -> b ≠ r -> s.heap.get? b = some o -> h'.get? b = some o) -> h'.get? S = some { cls := .type "list", dict := none, data := .seq acc' c', slots := #[] } -> ItemsOf (fun i v => items[items.size - 1 - i]? = some v) acc' items.size -> R (.ok (.ret res)) { s with heap := h', toks := tk }) (hn : items.size <= sizeLine) :
  wpAny (model prog w) A.in1 (Builtin.List.listExtendWith (.ref S) (.ref r) res) (fun fin s' => match fin with | .done f => R (.ok f) s' | .again c' => c'.quiet = true /\ codeAny (model prog w) A c' R s') (fun e s' => R (.error e) s') s := by
 have W := pH (prog := prog) (w := w) (A := A.in1) hh r l hlr items hfit
 have hSf : S ∉ [r, l] := by simp only [List.mem_cons, List.not_mem_nil, or_false, not_or]; exact ⟨hSr, hSl⟩
 have e0 : (items.size : Int) - 1 - ((0 : Nat) : Int) = (items.size : Int) - 1 := by omega
 have key : ∀ (h : Heap) (c₁ tk : Nat), (∀ b o, b ≠ S -> s.heap.get? b = some o -> h.get? b = some o) -> h.get? S = some { cls := .type "list", data := .seq #[] c₁ } -> codeAny (model prog w) A (.builtin "list.extend.loop" ⟨[.ref S, .ref r, res], []⟩) R { s with heap := h, toks := tk } := by
  intro h c₁ tk hk hS₁
  refine codeAny_extend_loopS W.toS hn S hSf res items.size 0 _ #[] c₁ rfl (Nat.zero_le _) ⟨Nat.zero_le _, by rw [e0]; exact hr.at' fun o e => hk r o (Ne.symm hSr) e, eG hl fun o e => hk l o (Ne.symm hSl) e⟩ hS₁ (ItemsOf.nil _) fun s' acc' c' hm hS' hacc => ?_
  rw [Moved.eq_with hm]
  refine hR s'.heap s'.toks acc' c' (fun b o hb hbr e => hm.heap b o (fun z => ?_) (hk b o hb e)) hS' hacc
  rcases List.mem_cons.mp z with z | z
  ·exact hb z
  ·exact hbr (List.mem_singleton.mp z)
 unfold Builtin.List.listExtendWith
 refine wpAny_bind (wpAny_typeOf (T := "reversed") hr.ty ?_)
 have h1 : Builtin.List.listSameRef (.ref S) (.ref r) = false := by simp [Builtin.List.listSameRef, hSr]
 rw [if_neg (by rw [h1]; decide)]
 refine wpAny_bind (nj hr ?_)
 refine wpAny_bind (wpAny_holding (qH hfit hn hr hl fun b tk1 => ?_))
 refine wpAny_ite_split (fun _ => ?_) (fun _ => wpAny_pure ⟨plainId_quiet PySem.F.plain_extend_loop _, key _ c₀ _ (fun b o _ e => e) hS⟩)
 refine wpAny_bind (wpAny_rule (wpAny_bind ?_)); show wpAny _ _ (updateSeq S (·.push .none) >>= fun _ => updateSeq S (·.pop)) _ _ _
 refine wpAny_bind (wpAny_updateSeq hS rfl ?_)
 have hS₂ := Heap.get?_update_self (Obj.mapSeq (·.push Value.none)) hS rfl
 refine wpAny_updateSeq (hz := by seq_fits) hS₂ rfl ?_
 have hS₃ := Heap.get?_update_self (Obj.mapSeq (·.pop)) hS₂ rfl
 exact wpAny_pure ⟨plainId_quiet PySem.F.plain_extend_loop _, key _ _ _ (fun b o hb e => (Heap.get?_update_other _ _ (Ne.symm hb)).trans ((Heap.get?_update_other _ _ (Ne.symm hb)).trans e)) hS₃⟩
theorem qh {R : Result -> Shared -> Prop} (hh : A.handled = none) (hfit : (items.size : Int) < 2 ^ 63) (hr : fb s.heap r l ((items.size : Int) - 1)) (hl : IsTup s.heap l items) (hlr : l ≠ r) (hSr : S ≠ r) (hSl : S ≠ l) (hS : s.heap.get? S = some { cls := .type "list", data := .seq #[] })
  (hR : ∀ h' tk acc' c', (∀ b o, b ≠ S -> b ≠ r -> s.heap.get? b = some o -> h'.get? b = some o) -> h'.get? S = some { cls := .type "list", dict := none, data := .seq acc' c', slots := #[] } -> ItemsOf (fun i v => items[items.size - 1 - i]? = some v) acc' items.size -> R (.ok (.ret .none)) { s with heap := h', toks := tk }) (hn : items.size <= sizeLine) :
  wpAny (model prog w) A.in1 (Builtin.«list.__init__» ⟨[.ref S, .ref r], []⟩) (fun fin s' => match fin with | .done f => R (.ok f) s' | .again c' => c'.quiet = true /\ codeAny (model prog w) A c' R s') (fun e s' => R (.error e) s') s := by
 show wpAny _ _ (do let old <- Builtin.List.listItems (.ref S); Builtin.List.listUpdate (.ref S) (fun _ => #[]); letGo old.toList.reverse; Builtin.List.listExtendWith (.ref S) (.ref r) .none) _ _ s; refine wpAny_bind ?_
 unfold Builtin.List.listItems; refine wpAny_bind (wpAny_seqItems hS rfl (wpAny_pure ?_))
 show wpAny _ _ (updateSeq S (fun _ => #[]) >>= fun _ => letGo (#[] : Array Value).toList.reverse >>= fun _ => Builtin.List.listExtendWith (.ref S) (.ref r) .none) _ _ s; refine wpAny_bind (wpAny_updateSeq hS rfl ?_)
 have hS₂ := Heap.get?_update_self (Obj.mapSeq (fun _ => (#[] : Array Value))) hS rfl
 have oth : ∀ b o, b ≠ S -> s.heap.get? b = some o -> (s.heap.update S (Obj.mapSeq (fun _ => (#[] : Array Value)))).get? b = some o := fun b o hb e => (Heap.get?_update_other _ _ (Ne.symm hb)).trans e
 refine wpAny_bind (wpAny_letGo (me hh hfit (hr.at' fun o e => oth r o (Ne.symm hSr) e) (eG hl fun o e => oth l o (Ne.symm hSl) e) hlr hSr hSl .none _ hS₂ (fun h' tk acc' c' hk hS' hacc => ?_) hn))
 exact hR h' tk acc' c' (fun b o hb hbr e => hk b o hb hbr (oth b o hb e)) hS' hacc
theorem qN {Q : Value -> Shared -> Prop} (hh : A.handled = none) (hfit : (items.size : Int) < 2 ^ 63) (hr : fb s.heap r l ((items.size : Int) - 1)) (hl : IsTup s.heap l items) (hlr : l ≠ r) (hn : items.size <= sizeLine)
  (hQ : ∀ h' tk acc' c', (∀ b o, b ≠ r -> s.heap.get? b = some o -> h'.get? b = some o) -> h'.get? s.heap.objs.size = some { cls := .type "list", dict := none, data := .seq acc' c', slots := #[] } -> ItemsOf (fun i v => items[items.size - 1 - i]? = some v) acc' items.size -> Q (.ref s.heap.objs.size) { s with heap := h', toks := tk }) :
  wpAny (model prog w) A (call (.type "list") [.ref r]) Q E s := by
 refine callType_codes (Q₁ := fun obj s₁ => obj = .ref s.heap.objs.size /\ s₁ = { s with heap := s.heap.push { cls := .type "list", data := .seq #[] } }) PySem.F.called_list (PySem.F.typeCall_list_1 _) PySem.F.entry_list_init (code_list_new _ ⟨rfl, rfl⟩) fun obj s₁ h₁ => ?_
 obtain ⟨rfl, rfl⟩ := h₁
 have hS : (s.heap.push { cls := .type "list", data := .seq #[] }).get? s.heap.objs.size = some { cls := .type "list", data := .seq #[] } := Heap.get?_push_size _ rfl
 have hr' : r < s.heap.objs.size := let ⟨o, ho, _⟩ := hr; Heap.lt_size ho
 have hl' : l < s.heap.objs.size := let ⟨o, ho, _⟩ := hl; Heap.lt_size ho
 refine ⟨⟨_, hS, rfl⟩, PySem.F.args_list_init_2 _ _, qh (A := A.in1) hh hfit (hr.at' fun o e => Heap.get?_push_of_some _ e) (eG hl fun o e => Heap.get?_push_of_some _ e) hlr (Nat.ne_of_gt hr') (Nat.ne_of_gt hl') hS (fun h' tk acc' c' hk hS' hacc => ?_) hn⟩
 exact ⟨rfl, hQ h' tk acc' c' (fun b o hb e => hk b o (Nat.ne_of_lt (Heap.lt_size e)) hb (Heap.get?_push_of_some _ e)) hS' hacc⟩
end
section
variable {X : Cx} {e : Expr} {te : TE} {p p1 pos pos1 : Pos}
def on (K : PySem.W.Frag) (te : TE) : TE := fun σ H Q => te σ H fun x H1 => ∃ l ys, x = .ref l /\ SqT K H1 l ys /\ ∀ a, H1 a = none -> Q (.ref a) (upd H1 a (.lst ys.reverse))
theorem kC (hg : Gl X "list") (hm : X.mg "list" = none) (hg' : Gl X "reversed") (hm' : X.mg "reversed" = none) (hc : X.calm = true) (he : PE X e te)
  (hs : starEach [e] X.env = [(false, eval e X.env)] := by rfl) (hs2 : starEach [.Call (.Name "reversed" p1) [e] [] pos1] X.env = [(false, eval (.Call (.Name "reversed" p1) [e] [] pos1) X.env)] := by rfl) :
  PE X (.Call (.Name "list" p) [.Call (.Name "reversed" p1) [e] [] pos1] [] pos) (on X.K te) := by
 intro pins s σ H Q I h
 refine wpAny_Call_Name_kw (eB I hg hm (u := .type "list") (by decide +kernel) ?_)
 refine PyProof.Rows.callWith_type1 ?_ hs2 rfl
 rw [hs2]
 show wpAny _ _ (spliced ((false, eval (.Call (.Name "reversed" p1) [e] [] pos1) X.env) :: backTo pos [])) _ _ s
 refine Calls.spliced_cons (wpAny_Call_Name_kw (eB I hg' hm' (u := .type "reversed") (by decide +kernel) (PyProof.Rows.callWith_type1 ?_ hs rfl)))
 rw [hs]
 show wpAny _ _ (spliced ((false, eval e X.env) :: backTo pos1 [])) _ _ s
 refine Calls.spliced_cons (thn (he pins s σ H _ I h) fun u s1 ⟨x, H1, I1, r1, l, ys, ex, hq, q⟩ => Calls.spliced_nil ?_)
 subst ex
 cases r1
 obtain ⟨its, rv, pl, hz⟩ := I1.tuple hq
 have li : its.length = ys.length := rv.length.symm
 have hl' : l < s1.heap.objs.size := let ⟨o, ho, _⟩ := pl; Heap.lt_size ho
 have hfit : (its.toArray.size : Int) < 2 ^ 63 := by rw [sizeLine_eq] at hz; rw [List.size_toArray]; omega
 refine rJ pl hfit fun tk0 => Calls.spliced_nil ?_
 refine qN (A := X.A) (s := { s1 with heap := s1.heap.push (iZ l ((its.toArray.size : Int) - 1)), toks := tk0 }) (I1.ok.hd hc) hfit ⟨_, Heap.get?_push_size _ rfl, rfl, rfl⟩ (eG pl fun o e => Heap.get?_push_of_some _ e) (Nat.ne_of_lt hl') (by simp; omega) fun h' tk acc c k hS it => ?_
 have k1 : ∀ b o, s1.heap.get? b = some o -> h'.get? b = some o := fun b o e => k b o (Nat.ne_of_lt (Heap.lt_size e)) (Heap.get?_push_of_some _ e)
 have rv' : aF ys.reverse acc.toList := by
  refine kf (by have h1 := it.1; have h2 : acc.toList.length = acc.size := Array.length_toList; rw [List.length_reverse, h2, h1]; simpa using li.symm) fun i x u h1 h2 => ?_
  have hi : i < ys.length := by have := (List.getElem?_eq_some_iff.mp h1).1; rwa [List.length_reverse] at this
  rw [List.getElem?_reverse hi] at h1
  have h3 := it.2 i u (by rw [<- Array.getElem?_toList]; exact h2)
  have h4 : its[ys.length - 1 - i]? = some u := by simpa [li] using h3
  obtain ⟨u', hu', ru⟩ := rv.get h1
  rw [h4] at hu'
  cases hu'
  exact ru
 have hz2 : (s1.heap.push (iZ l ((its.toArray.size : Int) - 1))).objs.size = s1.heap.objs.size + 1 := Heap.size_push ..
 refine ⟨.ref (s1.heap.push (iZ l ((its.toArray.size : Int) - 1))).objs.size, _, I1.laid (t' := tk) (a := (s1.heap.push (iZ l ((its.toArray.size : Int) - 1))).objs.size) k1 (by rw [hz2]; exact Nat.le_succ _) (show aU X.prog X.w _ h' _ (.lst ys.reverse) from ⟨by rw [List.length_reverse]; exact hz, acc.toList, c, rv', by simpa using hS⟩), rfl, q _ (I1.hok.fresh (by rw [hz2]; exact Nat.le_succ _))⟩
theorem gq {bt : Nat -> Nat -> Bool} {val : Nat -> Int} (hb : ∀ i j, bt i j = decide (val i > val j)) : ∀ n, argBest bt n <= n /\ ∀ j, j <= n -> val j <= val (argBest bt n)
 | 0 => ⟨Nat.le_refl _, fun j hj => by rw [Nat.le_zero.mp hj]; exact Int.le_refl _⟩
 | n + 1 => by
  obtain ⟨h1, h2⟩ := gq hb n
  have e : argBest bt (n + 1) = if bt (n + 1) (argBest bt n) then n + 1 else argBest bt n := rfl
  rw [e, hb]
  by_cases c : val (n + 1) > val (argBest bt n)
  ·rw [decide_eq_true c, if_pos rfl]
   refine ⟨Nat.le_refl _, fun j hj => ?_⟩
   by_cases z : j = n + 1
   ·rw [z]; exact Int.le_refl _
   ·have := h2 j (by omega); omega
  ·rw [decide_eq_false c, if_neg (by decide)]
   refine ⟨by omega, fun j hj => ?_⟩
   by_cases z : j = n + 1
   ·rw [z]; omega
   ·exact h2 j (by omega)
def kR (v d : Addr) : HO := .ext fun h => h.IsValuesView v d
theorem oM : MtR X "dict.values" (fun x xs H Q => ∃ d kvs, x = .ref d /\ xs = [] /\ H d = some (.dK kvs) /\ ∀ v, H v = none -> Q (.ref v) (upd H v (kR v d))) := by
 intro pins s σ H x xs u us Q I rx rv h
 obtain ⟨d, kvs, rfl, rfl, hd, q⟩ := h
 cases rx
 cases rv
 obtain ⟨z, hdm, vs, rel, dd⟩ := hV I.hok hd
 refine call_meetsIn PySem.F.slot_dict_values dd.typeIs PySem.F.entry_dict_values (PySem.F.args_dict_values_1 _) (meets_dict_values (aA X.prog X.w) d hdm) ⟨⟨vs, dd⟩, ?_⟩
 refine ⟨.ref s.heap.objs.size, _, I.laid (t' := s.toks) (a := s.heap.objs.size) (o := kR s.heap.objs.size d) (fun b u q => Heap.get?_push_of_some _ q) (Nat.le_refl _) ?_, rfl, q _ I.fresh⟩
 exact ⟨⟨_, Heap.get?_push_size _ rfl, rfl, rfl⟩, ⟨_, Heap.get?_push_size _ rfl⟩, fun h1 h2 ⟨o, e, r⟩ k => ⟨o, k o e, r⟩⟩
def nAt (nums : List KB.Pr) (i : Nat) : Int := ((nums[i]?).map fun p => p.2).getD 0
theorem oI (hc : X.calm = true) : cA X (.builtin "max") (fun xs H Q => ∃ (v d : Addr) (nums : List KB.Pr), xs = [.ref v] /\ H v = some (kR v d) /\ H d = some (.dK (KB.dk nums)) /\ nums ≠ [] /\ ∀ i : Int, (∀ p ∈ nums, p.2 <= i) -> (∃ p ∈ nums, p.2 = i) -> Q (.int i) H) := by
 intro pins s σ H xs us Q I r h
 obtain ⟨v, d, nums, rfl, hv, hd, ne, q⟩ := h
 obtain ⟨u, rfl, ru⟩ := cT r
 cases ru
 obtain ⟨vw, _, _⟩ := (show aU X.prog X.w H s.heap v (kR v d) from I.hok v _ hv)
 obtain ⟨z, hdm, vs, rel, dd⟩ := hV I.hok hd
 obtain ⟨ep, da⟩ := dd.dictAt
 have hlen : vs.length = nums.length := by have := rel.length; rw [KB.dk, List.length_map] at this; exact this.symm
 have hlt : d < s.heap.objs.size := I.hok.lt hd
 have h0 : 0 < nums.length := List.length_pos_iff.mpr ne
 have vals : ∀ i v, (∃ k, vs[i]? = some (k, v)) -> ∃ t, v = Value.int (nAt nums i) t := by
  rintro i v ⟨k, e⟩
  obtain ⟨x, hx, rx⟩ := rel.at e
  rw [KB.dk, List.getElem?_map] at hx
  obtain ⟨p, hp, e2⟩ := Option.map_eq_some_iff.mp hx
  cases e2
  rw [nAt, hp]
  exact rx
 refine call_max_walk (wpAny_pyIter_values (knd := aA X.prog X.w) vw da ?_)
 have sz : (s.heap.push { cls := .type "dict_valueiterator", data := .fields #[.ref d, .int 0 0, .int vs.length 0, .int ep 0] }).objs.size = s.heap.objs.size + 1 := Heap.size_push ..
 refine ⟨_, _, _, _, _, _, _, rfl, Walks.dictValues (A := X.A.in1) (knd := aA X.prog X.w) (I.ok.hd hc) _ d (Nat.ne_of_lt hlt) vs ep, ⟨⟨_, Heap.get?_push_size _ rfl, rfl, rfl⟩, da.at' fun o e => Heap.get?_push_of_some _ e⟩, fun b hb => ?_, by omega, CmpOf.ints_gt (nAt nums) vals, fun v h' tk hP hk => ?_⟩
 ·show b < (s.heap.push _).objs.size
  rw [sz]
  rcases List.mem_cons.mp hb with rfl | hb
  ·exact Nat.lt_succ_self _
  ·rw [List.mem_singleton.mp hb]; exact Nat.lt_succ_of_lt hlt
 ·obtain ⟨t, e⟩ := vals _ _ hP
  have kp : ∀ b o, s.heap.get? b = some o -> h'.get? b = some o := fun b o e => hk b o (fun hm => by rw [List.mem_singleton.mp hm] at e; exact absurd (Heap.lt_size e) (Nat.lt_irrefl _)) (Heap.get?_push_of_some _ e)
  obtain ⟨b1, b2⟩ := gq (bt := fun i j => decide ((nAt nums i) > (nAt nums j))) (val := nAt nums) (fun _ _ => rfl) (vs.length - 1)
  refine ⟨.int _, H, I.kept (t' := tk) kp, ⟨t, e⟩, q _ (fun p hp => ?_) ?_⟩
  ·obtain ⟨j, hj⟩ := List.getElem?_of_mem hp
   have := b2 j (by have := (List.getElem?_eq_some_iff.mp hj).1; omega)
   rw [nAt, hj] at this
   exact this
  ·generalize argBest (fun i j => decide ((nAt nums i) > (nAt nums j))) (vs.length - 1) = k at b1 ⊢
   have hk : k < nums.length := by omega
   exact ⟨nums[k], List.getElem_mem hk, by rw [nAt, List.getElem?_eq_getElem hk]; rfl⟩
def rH (K : PySem.W.Frag) (P : Program) (w : World) (to : TE) : TE := fun σ H Q => to σ H fun x H1 => ∃ d m, x = .ref d /\ Dp K P w H1 d m /\ ∀ v, H1 v = none -> Q (.ref v) (upd H1 v (eA v d))
theorem ja {o : Expr} {to : TE} {apos cpos : Pos} (ho : PE X o to) (hbase : attributeBase o "items" X.env (eval o X.env) = eval o X.env := by rfl) (hline : (apos.endLine == cpos.line) = true := by rfl) : PE X (.Call (.Attribute o "items" apos) [] [] cpos) (rH X.K X.prog X.w to) := by
 intro pins s σ H Q I h
 refine wpAny_Call_method0_late hbase hline (thn (ho pins s σ H _ I h) fun v s1 ⟨x, H1, I1, r1, d, m, ex, hd, q1⟩ => ?_)
 subst ex
 obtain rfl : v = Value.ref d := r1
 obtain ⟨ys, _, _, _, _, dd, _⟩ := iW I1 hd
 have h2 : ∀ a, Value.ref d = .ref a -> ∃ ob, s1.heap.get? a = some ob /\ ob.dict = none := fun b q => by cases q; obtain ⟨ob, _, _, h1, h2, _⟩ := dd; exact ⟨ob, h1, h2.2.1⟩
 exact ⟨"dict", "dict.items", PySem.F.plainAttrs_dict, PySem.F.slot_dict_items, PySem.F.type_dict_items, dd.typeIs, h2, Calls.callWith_builtin rfl (PySem.evalArgs_none (oo pins s1 σ H1 (.ref d) [] (.ref d) [] Q I1 rfl .nil ⟨d, m, rfl, rfl, hd, q1⟩))⟩
end
end L2
namespace K51
open PySem L2 KB
def top (i : Nat) : Stmt := PySem.Challenge.pw_indexwise_k51_laid_and_raised.main.body.getD i (.Pass ⟨0, 0, 0, 0⟩)
structure Txt (K : PySem.W.Frag) (mg : Str -> Option Value) : Prop where
 len : mg "len" = none
 isinstance : mg "isinstance" = none
 int : mg "int" = none
 bool : mg "bool" = none
 tuple : mg "tuple" = none
 list : mg "list" = none
 all : mg "all" = none
 zip : mg "zip" = none
 range : mg "range" = none
 enumerate : mg "enumerate" = none
 sorted : mg "sorted" = none
 max : mg "max" = none
 sum : mg "sum" = none
 reversed : mg "reversed" = none
 dict : mg "dict" = none
abbrev eP : Stmt := top 2
abbrev dq : Stmt := top 23
abbrev eN : Stmt := top 20
abbrev dg : Stmt := top 21
theorem mp {j : Int} (h : 0 < j) : 0 < j := h
theorem md (n m : Int) (h : 0 < m) : 0 <= n % m /\ n % m < m := ⟨Int.emod_nonneg _ (by omega), Int.emod_lt_of_pos _ h⟩
def amt (nums : List Pr) (c : Int) (ps : List Pr) : Int := c + W (tm nums) ps
def Nm (x : Str) : Prop := x = "a" \/ x = "k" \/ x = "zz"
structure Lb (c : Int) (ps : List Pr) : Prop where
 c0 : 0 <= c
 cB : c <= 9
 nm : ∀ p ∈ ps, Nm p.1 /\ 1 <= p.2 /\ p.2 <= 3
 len : ps.length <= 3
structure NB (nums : List Pr) : Prop where
 lo : ∀ x, 0 <= tm nums x
 hi : ∀ x, tm nums x <= 60
 has : ∀ x, Nm x -> df (dk nums) (Sum.inr x) = some (.int (tm nums x))
 can : (nums.map (·.1)).Nodup
theorem vf (p : Pr) : L2.Pl 2 (.tup [.str p.1, .int p.2]) := .tup fun e he => by
 rcases List.mem_cons.mp he with rfl | he
 ·exact .str
 ·rw [List.mem_singleton.mp he]; exact .int
theorem bZ {nums : List Pr} (hn : NB nums) {c : Int} {ps : List Pr} (h : Lb c ps) : 0 <= amt nums c ps /\ amt nums c ps <= 3000 := by
 have hW := jM (num := tm nums) (B := 3) (by decide) (fun x => ⟨hn.lo x, hn.hi x⟩) (ps := ps) fun p hp => ⟨by have := (h.nm p hp).2; omega, (h.nm p hp).2.2⟩
 have h0 := h.c0
 have h1 := h.cB
 have h2 := h.len
 unfold amt
 obtain ⟨a, b⟩ := hW
 refine ⟨by omega, ?_⟩
 have : (ps.length : Int) * (3 * 60) <= 3 * (3 * 60) := by omega
 omega
def cD : Sp := fun vs H Q _ => ∃ (v : V) (d : Addr) (c : Int) (ps nums : List Pr), vs = [v, .ref d] /\ Rep H (dE c ps) v /\ Lb c ps /\ NB nums /\ H d = some (.dK (dk nums)) /\ ∀ H', az H H' -> Q (.int (amt nums c ps)) H'
def jT : Sp := fun vs H Q _ => ∃ (c k : Int), vs = [.int c, .int k] /\ ∀ r : Int, 0 <= r -> r < 2147483629 -> Q (.int r) H
def rf : Sp := fun vs H Q _ => ∃ (n : Int), vs = [.int n] /\ ∀ (H' : Hp) (v : V) (c : Int) (ps : List Pr), az H H' -> Rep H' (dE c ps) v -> Lb c ps -> Q v H'
section
variable {P : Program} {w : World} {K : PySem.W.Frag} {mg : Str -> Option Value} {base : Heap}
theorem pC : aP ["a", "numbers"] ["a", "numbers"] (aj eP) := ⟨rfl, rfl, rfl, by decide +kernel, rfl, by decide +kernel, by decide +kernel⟩
theorem rh {f : Addr} {fd : FuncData} (F : Fun K "worth" "worth" eP f fd) (T : Txt K mg) : bg P w K mg base CX0 1 f fd ["a", "numbers"] cD := by
 refine F.ok pC (fun vs H Q E h => ?_) (fun cdv A outer s H vs Q E hr h => ?_)
 ·obtain ⟨v, d, c, ps, nums, rfl, _⟩ := h
  rfl
 obtain ⟨v, d, c, ps, nums, rfl, R, hL, hn, hd, q⟩ := h
 have hu := iU hr
 obtain ⟨a, a1, us, rfl, ha, ha1, ru, lu⟩ := ji R
 have l10 := hL.len
 refine ⟨_, (@ao _ _ _ (@aD _ _ _ _ (@aq _ _ _ _ _ _ _ _ bo (@aG _ _ _ _ _ _ _ aE (@pv _ 0 _ _ (by rfl) (by trivial) (by decide) (by decide)) (@ae _ _ _ _) (fun _ _ => rfl)) (@aT _ _ _ _ _ _ _ _ _ (eF rfl) rfl T.sum (by decide +kernel) (@aa _ _ _ _ _ (@iz _ _ (["name", "times"]) ([1]) _ _ _ _ _ _ _ _ _ (@dF _ _ _ _ (@aG _ _ _ _ _ _ _ aE (@pv _ 0 _ _ (by rfl) (by trivial) (by decide) (by decide)) (@ae _ _ _ _) (fun _ _ => rfl))) (.of rfl) rfl (fun _ _ _ => cp rfl (@aN _ _ _ _ _ (@aL _ _ (0) _ (cX (l := ["name", "times", "numbers"]) ((by decide +kernel)) rfl) rfl (Or.inl rfl) (by trivial)) (@aN _ _ _ _ _ (@aL _ _ (1) _ (cX (l := ["name", "times", "numbers"]) ((by decide +kernel)) rfl) rfl (Or.inl rfl) (by trivial)) (@bN _) (by rfl)) (by rfl))) (hJ (by decide) (by decide)) (fun _ _ _ => (@cW _)) (fun _ _ _ => (@aq _ _ _ _ _ _ _ _ bF (@pv _ 1 _ _ (by rfl) (by trivial) (by decide) (by decide)) (@gQ _ _ _ _ _ _ _ _ _ hu (@pv _ 2 _ _ (by rfl) (by trivial) (by decide) (by decide)) (@pv _ 0 _ _ (by rfl) (by trivial) (by decide) (by decide)) (@ae _ _ _ _) ⟨rfl, rfl, rfl, rfl⟩))) (by intro _; rfl)) (@af _) (by rfl)) (by decide) (by decide) (by rfl) (by rfl))))), ?_⟩
 refine ⟨_, rfl, a, _, 0, .int c, rfl, rfl, SqT.of ha, ai (j := 0) rfl, _, rfl, a, _, 1, .ref a1, rfl, rfl, SqT.of ha, ai (j := 1) rfl, a1, rfl, ⟨us, SqT.of ha1⟩, ?_⟩
 refine jt (xs := us) (fun i ys H' => H' = H /\ ys = ((ps.take i).map fun p => p.2 * tm nums p.1).map V.int) ⟨rfl, rfl⟩ (fun i ys H' _ p => by rw [p.1]; exact SqT.of ha1) ?_ ?_
 ·rintro i ys H1 x hx ⟨rfl, rfl⟩
  obtain ⟨p, b, hp, rfl, hb⟩ := fH ru hx
  have hi : i < us.length := (List.getElem?_eq_some_iff.mp hx).1
  have p0 := (hL.nm p (List.mem_of_getElem? hp)).2
  refine fj hb ⟨_, rfl, _, rfl, d, rfl, .inl ⟨_, .inl hd⟩, _, rfl, _, fA.k (k := Sum.inr p.1) hd, p.2, tm nums p.1, rfl, nu _ _, .inl ⟨by omega, by omega⟩, ?_, rfl, ?_⟩
  ·simp only [List.length_map, List.length_take, sizeLine_eq]; omega
  ·rw [List.take_add_one, hp, List.map_append, List.map_append]; rfl
 ·rintro ys H1 ⟨rfl, rfl⟩ l hl
  rw [lu, List.take_length]
  refine ⟨l, _, rfl, SqL.of ad, _, _, rfl, rfl, ?_⟩
  rw [tz]
  exact q _ (ah hl _)
theorem oQ : aP ["_law_length_here", "_law_numbers_here"] ["_law_length_here", "_law_numbers_here"] (aj dq) := ⟨rfl, rfl, rfl, by decide +kernel, rfl, by decide +kernel, by decide +kernel⟩
theorem pf {f : Addr} {fd : FuncData} (F : Fun K "_law_worth" "_law_worth" dq f fd) (T : Txt K mg) : bg P w K mg base CX0 1 f fd ["_law_length_here", "_law_numbers_here"] cD := by
 refine F.ok oQ (fun vs H Q E h => ?_) (fun cdv A outer s H vs Q E hr h => ?_)
 ·obtain ⟨v, d, c, ps, nums, rfl, _⟩ := h
  rfl
 obtain ⟨v, d, c, ps, nums, rfl, R, hL, hn, hd, q⟩ := h
 have hu := iU hr
 obtain ⟨a, a1, us, rfl, ha, ha1, ru, lu⟩ := ji R
 have l10 := hL.len
 refine ⟨_, (@ao _ _ _ (@aD _ _ _ _ (@aq _ _ _ _ _ _ _ _ bo (@aG _ _ _ _ _ _ _ aE (@pv _ 0 _ _ (by rfl) (by trivial) (by decide) (by decide)) (@ae _ _ _ _) (fun _ _ => rfl)) (@aT _ _ _ _ _ _ _ _ _ (eF rfl) rfl T.sum (by decide +kernel) (@aa _ _ _ _ _ (@iz _ _ (["_law_name", "_law_times"]) ([1]) _ _ _ _ _ _ _ _ _ (@dF _ _ _ _ (@aG _ _ _ _ _ _ _ aE (@pv _ 0 _ _ (by rfl) (by trivial) (by decide) (by decide)) (@ae _ _ _ _) (fun _ _ => rfl))) (.of rfl) rfl (fun _ _ _ => cp rfl (@aN _ _ _ _ _ (@aL _ _ (0) _ (cX (l := ["_law_name", "_law_times", "_law_numbers_here"]) ((by decide +kernel)) rfl) rfl (Or.inl rfl) (by trivial)) (@aN _ _ _ _ _ (@aL _ _ (1) _ (cX (l := ["_law_name", "_law_times", "_law_numbers_here"]) ((by decide +kernel)) rfl) rfl (Or.inl rfl) (by trivial)) (@bN _) (by rfl)) (by rfl))) (hJ (by decide) (by decide)) (fun _ _ _ => (@cW _)) (fun _ _ _ => (@aq _ _ _ _ _ _ _ _ bF (@pv _ 1 _ _ (by rfl) (by trivial) (by decide) (by decide)) (@nU _ _ _ _ _ _ hu (@pv _ 2 _ _ (by rfl) (by trivial) (by decide) (by decide)) (@pv _ 0 _ _ (by rfl) (by trivial) (by decide) (by decide)) (fun _ _ => rfl)))) (by intro _; rfl)) (@af _) (by rfl)) (by decide) (by decide) (by rfl) (by rfl))))), ?_⟩
 refine ⟨_, rfl, a, _, 0, .int c, rfl, rfl, SqT.of ha, ai (j := 0) rfl, _, rfl, a, _, 1, .ref a1, rfl, rfl, SqT.of ha, ai (j := 1) rfl, a1, rfl, ⟨us, SqT.of ha1⟩, ?_⟩
 refine jt (xs := us) (fun i ys H' => H' = H /\ ys = ((ps.take i).map fun p => p.2 * tm nums p.1).map V.int) ⟨rfl, rfl⟩ (fun i ys H' _ p => by rw [p.1]; exact SqT.of ha1) ?_ ?_
 ·rintro i ys H1 x hx ⟨rfl, rfl⟩
  obtain ⟨p, b, hp, rfl, hb⟩ := fH ru hx
  have hi : i < us.length := (List.getElem?_eq_some_iff.mp hx).1
  obtain ⟨pn, p0⟩ := hL.nm p (List.mem_of_getElem? hp)
  refine fj hb ⟨_, rfl, _, rfl, _, rfl, d, _, rfl, ?_, p.2, tm nums p.1, rfl, rfl, .inl ⟨by omega, by omega⟩, ?_, rfl, ?_⟩
  ·rw [<- hn.has p.1 pn]; exact fA.k (k := Sum.inr p.1) hd
  ·simp only [List.length_map, List.length_take, sizeLine_eq]; omega
  ·rw [List.take_add_one, hp, List.map_append, List.map_append]; rfl
 ·rintro ys H1 ⟨rfl, rfl⟩ l hl
  rw [lu, List.take_length]
  refine ⟨l, _, rfl, SqL.of ad, _, _, rfl, rfl, ?_⟩
  rw [tz]
  exact q _ (ah hl _)
theorem lF : aP ["_law_cell", "_law_k", "_law_number"] ["_law_cell", "_law_k"] (aj eN) := ⟨rfl, rfl, rfl, by decide +kernel, rfl, by decide +kernel, by decide +kernel⟩
theorem qu {f : Addr} {fd : FuncData} (F : Fun K "_law_mixed" "_law_mixed" eN f fd) (T : Txt K mg) : bg P w K mg base CX0 1 f fd ["_law_cell", "_law_k"] jT := by
 have nd : (["_law_cell", "_law_k", "_law_number"] : List Str).Nodup := lF.nd
 refine F.ok lF (fun vs H Q E h => ?_) (fun cdv A outer s H vs Q E hr h => ?_)
 ·obtain ⟨c, k, rfl, _⟩ := h
  rfl
 obtain ⟨c, k, rfl, q⟩ := h
 refine ⟨_, (@ag _ _ _ _ _ (@aB _ _ (2) _ _ _ _ nd rfl (Or.inl rfl) (@aq _ _ _ _ _ _ _ _ bm (@aq _ _ _ _ _ _ _ _ bF (@aq _ _ _ _ _ _ _ _ bo (@aq _ _ _ _ _ _ _ _ bo (@aq _ _ _ _ _ _ _ _ bm (@pv _ 0 _ _ (by rfl) (by trivial) (by decide) (by decide)) (@aq _ _ _ _ _ _ _ _ fW (@ae _ _ _ _) (@ae _ _ _ _))) (@aq _ _ _ _ _ _ _ _ bF (@ae _ _ _ _) (@pv _ 1 _ _ (by rfl) (by trivial) (by decide) (by decide)))) (@ae _ _ _ _)) (@ae _ _ _ _)) (@ae _ _ _ _)) (by rfl) (by trivial)) (@ao _ _ _ (@aD _ _ _ _ (@aq _ _ _ _ _ _ _ _ bm (@aq _ _ _ _ _ _ _ _ bF (@pv _ 2 _ _ (by rfl) (by trivial) (by decide) (by decide)) (@pv _ 2 _ _ (by rfl) (by trivial) (by decide) (by decide))) (@ae _ _ _ _))))), ?_⟩
 refine ⟨_, rfl, _, _, rfl, rfl, ⟨by decide, by decide, by decide⟩, _, _, rfl, rfl, mp (by decide), _, rfl, _, _, rfl, rfl, .inl ⟨by decide, by decide⟩, _, _, rfl, rfl, _, _, rfl, rfl, _, _, rfl, rfl, .inr ⟨by decide, by decide⟩, _, _, rfl, rfl, mp (by decide), ?_⟩
 refine gnm ?_
 dsimp only
 have m0 := md ((c % 10 ^ (30 : Int).toNat + 7919 * k + 5) * 48271) 2147483647 (by decide)
 generalize (c % 10 ^ (30 : Int).toNat + 7919 * k + 5) * 48271 % 2147483647 = z at m0 ⊢
 exact ⟨_, rfl, _, rfl, _, _, rfl, rfl, .inl ⟨by omega, by omega⟩, _, _, rfl, rfl, mp (by decide), q _ (md _ _ (by decide)).1 (md _ _ (by decide)).2⟩
theorem iX : aP ["_law_number", "_law_parts", "_law_count", "_law_name"] ["_law_number"] (aj dg) := ⟨rfl, rfl, rfl, by decide +kernel, rfl, by decide +kernel, by decide +kernel⟩
theorem oB {f : Addr} {fd : FuncData} (F : Fun K "_law_length" "_law_length" dg f fd) (T : Txt K mg) : bg P w K mg base CX0 1 f fd ["_law_number"] rf := by
 have nd : (["_law_number", "_law_parts", "_law_count", "_law_name"] : List Str).Nodup := iX.nd
 refine F.ok iX (fun vs H Q E h => ?_) (fun cdv A outer s H vs Q E hr h => ?_)
 ·obtain ⟨n, rfl, _⟩ := h
  rfl
 obtain ⟨n, rfl, q⟩ := h
 refine ⟨_, (@ag _ _ _ _ _ (@aB _ _ (1) _ _ _ _ nd rfl (Or.inl rfl) (@cL _ _ _ _ (@af _)) (by rfl) (by trivial)) (@ag _ _ _ _ _ (@aB _ _ (2) _ _ _ _ nd rfl (Or.inl rfl) (@aq _ _ _ _ _ _ _ _ bm (@pv _ 0 _ _ (by rfl) (by trivial) (by decide) (by decide)) (@ae _ _ _ _)) (by rfl) (by trivial)) (@ag _ _ _ _ _ (@aB _ _ (0) _ _ _ _ nd rfl (Or.inl rfl) (@aq _ _ _ _ _ _ _ _ br (@pv _ 0 _ _ (by rfl) (by trivial) (by decide) (by decide)) (@ae _ _ _ _)) (by rfl) (by trivial)) (@ag _ _ _ _ _ (@cZ _ _ _ _ _ _ _ _ PassesOwn.never rfl (@fC _ _ _ _ (@cL _ _ _ _ (@aa _ _ _ _ _ (@aM _ _ _ _) (@aa _ _ _ _ _ (@aM _ _ _ _) (@aa _ _ _ _ _ (@aM _ _ _ _) (@af _) (by rfl)) (by rfl)) (by rfl)))) (@aL _ _ (3) _ nd rfl (Or.inl rfl) (by trivial)) (@ag _ _ _ _ _ (@bv _ _ _ _ _ _ _ _ (@aI _ _ _ _ _ _ _ _ ia (@aq _ _ _ _ _ _ _ _ bm (@pv _ 0 _ _ (by rfl) (by trivial) (by decide) (by decide)) (@ae _ _ _ _)) (@ae _ _ _ _) (aQ _)) (@ao _ _ _ (@cC _ _ _ _ (@gr _ _ _ _ _ _ _ _ _ _ _ _ PySem.F.plainAttrs_list PySem.F.slot_list_append PySem.F.type_list_append ck (@pv _ 1 _ _ (by rfl) (by trivial) (by decide) (by decide)) (@aa _ _ _ _ _ (@ba _ _ _ _ _ (@aa _ _ _ _ _ (@pv _ 3 _ _ (by rfl) (by trivial) (by decide) (by decide)) (@aa _ _ _ _ _ (@aq _ _ _ _ _ _ _ _ bm (@pv _ 0 _ _ (by rfl) (by trivial) (by decide) (by decide)) (@ae _ _ _ _)) (@af _) (by rfl)) (by rfl))) (@af _) (by rfl)) (by rfl) (by rfl) (by rfl) (by rfl) (by rfl)) (by rfl))) (@aS _)) (@ao _ _ _ (@aB _ _ (0) _ _ _ _ nd rfl (Or.inl rfl) (@aq _ _ _ _ _ _ _ _ br (@pv _ 0 _ _ (by rfl) (by trivial) (by decide) (by decide)) (@ae _ _ _ _)) (by rfl) (by trivial)))) (by intro _; rfl)) (@ao _ _ _ (@aD _ _ _ _ (@ba _ _ _ _ _ (@aa _ _ _ _ _ (@pv _ 2 _ _ (by rfl) (by trivial) (by decide) (by decide)) (@aa _ _ _ _ _ (@bp _ _ _ _ _ _ _ _ _ bj rfl T.tuple (by decide +kernel) (@aa _ _ _ _ _ (@pv _ 1 _ _ (by rfl) (by trivial) (by decide) (by decide)) (@af _) (by rfl)) (by decide) (by decide) (by rfl) (by rfl)) (@af _) (by rfl)) (by rfl))))))))), ?_⟩
 refine ⟨Nat.zero_le _, fun P1 hP => ?_⟩
 refine ⟨_, rfl, _, _, rfl, rfl, mp (by decide), ?_⟩
 refine ⟨_, rfl, _, _, rfl, rfl, ⟨by decide, by decide⟩, ?_⟩
 have c0 := md n 4 (by decide)
 refine ⟨z3, fun L hL => ⟨L, rfl, ⟨_, SqL.of ad⟩, ?_⟩⟩
 have q1 := ah hP (.lst [])
 have q2 := ah hL (.lst [V.str "a", .str "k", .str "zz"])
 have hPL : L ≠ P1 := fun e => by rw [e, ad] at hL; cases hL
 refine gS (xs := [V.str "a", .str "k", .str "zz"]) (fun i σ H' => ∃ (m : Int) (o3 : Option V) (qs : List Pr) (us : List V), σ = [some (.int m), some (.ref P1), some (.int (n % 4)), o3] /\ az H H' /\ H' L = some (.lst [V.str "a", .str "k", .str "zz"]) /\ H' P1 = some (.lst us) /\ Reps H' (aJ qs) us /\ qs.length <= i /\ ∀ p ∈ qs, Nm p.1 /\ 1 <= p.2 /\ p.2 <= 3)
  ⟨_, _, [], [], rfl, q1.trans q2, ad, q2 _ _ ad, by simp only [aJ, List.map_nil, Reps], Nat.zero_le _, by simp⟩ (fun i σ H' _ ⟨_, _, _, _, _, _, h, _⟩ => SqL.of h) ?_ ?_
 ·rintro i x σ H1 hx ⟨m, o3, qs, us, rfl, s1, hL1, hP1, Rs, lq, hall⟩
  have hx' : ∃ y, x = .str y /\ Nm y := by
   match i, hx with
   | 0, hx => cases hx; exact ⟨_, rfl, .inl rfl⟩
   | 1, hx => cases hx; exact ⟨_, rfl, .inr (.inl rfl)⟩
   | 2, hx => cases hx; exact ⟨_, rfl, .inr (.inr rfl)⟩
  obtain ⟨y, rfl, hy⟩ := hx'
  have hi : i < 3 := (List.getElem?_eq_some_iff.mp hx).1
  have lus : us.length = qs.length := by have := Rs.length; rwa [aJ, List.length_map] at this
  have m3 := md m 3 (by decide)
  refine ⟨_, rfl, _, _, rfl, rfl, mp (by decide), _, _, rfl, rfl, _, rfl, aW (fun h1 => ?_) (fun h1 => ?_)⟩
  ·have h1' : m % 3 > 0 := of_decide_eq_true h1
   refine ⟨_, rfl, .inl ⟨rfl, _, SqL.of hP1⟩, _, rfl, _, rfl, _, _, rfl, rfl, mp (by decide), z2, fun g hg => ?_⟩
   have q3 := ah hg (.tup [.str y, .int (m % 3)])
   refine ⟨P1, _, _, rfl, rfl, q3 _ _ hP1, by rw [sizeLine_eq]; omega, ?_⟩
   have s4 := bA.upd (upd H1 g (.tup [.str y, .int (m % 3)])) P1 (.lst (us ++ [.ref g]))
   have t4 : cO H1 _ := (az.tups q3).trans (s4.tups (q3 _ _ hP1))
   refine ⟨_, rfl, _, _, rfl, rfl, ⟨by decide, by decide⟩, _, _, qs ++ [(y, m % 3)], us ++ [.ref g], rfl, fun e o he => s4 e o (ap he hP) (q3 _ _ (s1 _ _ he)), s4 _ _ hPL (q3 _ _ hL1), ad, ?_, by rw [List.length_append]; simp; omega, fun p hp => ?_⟩
   ·rw [aJ, List.map_append]
    refine Reps.append (cj (fun d hd v r => bI t4 (by obtain ⟨p, _, rfl⟩ := List.mem_map.mp hd; exact vf p) r) Rs) (dC ?_)
    simp only [Rep, Reps]
    exact ⟨g, _, rfl, s4 _ _ (gU (q3 _ _ hP1) ad (fun z => nomatch z)).symm ad, _, _, rfl, rfl, _, _, rfl, rfl, rfl⟩
   ·rcases List.mem_append.mp hp with h | h
    ·exact hall p h
    ·rw [List.mem_singleton.mp h]; exact ⟨hy, by show 1 <= m % 3; omega, by show m % 3 <= 3; omega⟩
  ·refine ⟨_, rfl, _, _, rfl, rfl, ⟨by decide, by decide⟩, _, _, qs, us, rfl, s1, hL1, hP1, Rs, by omega, hall⟩
 ·rintro σ H1 ⟨m, o3, qs, us, rfl, s1, hL1, hP1, Rs, lq, hall⟩
  refine ⟨_, rfl, _, rfl, P1, _, rfl, .inl ⟨SqL.of hP1, fun t ht => ⟨z2, fun p hp => ?_⟩⟩⟩
  have q3 := ah ht (.tup us)
  have q4 := ah hp (.tup [.int (n % 4), .ref t])
  exact q _ _ (n % 4) qs (s1.trans (q3.trans q4)) (jX ad (q4 _ _ ad) ((Rs.mono q3).mono q4)) ⟨c0.1, by omega, hall, lq⟩
end
abbrev fS : Stmt := top 22
def el : Kd -> Prop
 | .whole => True
 | .place c ps => Lb c ps /\ 1 <= c
 | .row c ps k => Lb c ps /\ el k
 | .pair i j => el i /\ el j
def tms : Kd -> Nat
 | .whole => 1
 | .place _ _ => 1
 | .row _ _ k => 4 * tms k
 | .pair i j => tms i + tms j
theorem jN : ∀ k, 1 <= tms k
 | .whole => Nat.le_refl _
 | .place _ _ => Nat.le_refl _
 | .row _ _ k => by have := jN k; show 1 <= 4 * tms k; omega
 | .pair i j => by have := jN i; show 1 <= tms i + tms j; omega
def mM : Sp := fun vs H Q _ => ∃ (n : Int), vs = [.int n] /\ ∀ (H' : Hp) (v : V) (k : Kd), az H H' -> Rep H' k.dv v -> el k -> k.size <= 12 -> tms k <= 15625 -> Q v H'
theorem fk {t1 t2 : TS} {D : fF} {σ : St} {H : Hp} (M : St -> Hp -> Prop) (h2 : ∀ σ' H', M σ' H' -> t2 D σ' H') (f : ∀ N : St -> Hp -> Prop, (∀ σ' H', M σ' H' -> N σ' H') -> t1 { D with nx := N } σ H) : vx t1 t2 D σ H := f (t2 D) h2
section
variable {P : Program} {w : World} {K : PySem.W.Frag} {mg : Str -> Option Value} {base : Heap}
theorem mU : aP ["_law_number", "_law_kind_here", "_law_size", "_law_many_here", "_law_k", "_law_way", "_law_length_here"] ["_law_number"] (aj fS) := ⟨rfl, rfl, rfl, by decide +kernel, rfl, by decide +kernel, by decide +kernel⟩
theorem rM {f : Addr} {fd : FuncData} {k0 : Nat} (F : Fun K "_law_kind" "_law_kind" fS f fd) (T : Txt K mg) (D_law_length : Def P w K mg base k0 "_law_length" ["_law_number"] rf) : bg P w K mg base CX0 (k0 + 1) f fd ["_law_number"] mM := by
 have nd : (["_law_number", "_law_kind_here", "_law_size", "_law_many_here", "_law_k", "_law_way", "_law_length_here"] : List Str).Nodup := mU.nd
 refine F.ok mU (fun vs H Q E h => ?_) (fun cdv A outer s H vs Q E hr h => ?_)
 ·obtain ⟨n, rfl, _⟩ := h
  rfl
 obtain ⟨n, rfl, q⟩ := h
 refine ⟨_, (@ag _ _ _ _ _ (@aB _ _ (1) _ _ _ _ nd rfl (Or.inl rfl) (@ba _ _ _ _ _ (@aa _ _ _ _ _ (@aM _ _ _ _) (@af _) (by rfl))) (by rfl) (by trivial)) (@ag _ _ _ _ _ (@bv _ _ _ _ _ _ _ _ (@aI _ _ _ _ _ _ _ _ bM (@aq _ _ _ _ _ _ _ _ bm (@pv _ 0 _ _ (by rfl) (by trivial) (by decide) (by decide)) (@ae _ _ _ _)) (@ae _ _ _ _) (aQ _)) (@ao _ _ _ (@aB _ _ (1) _ _ _ _ nd rfl (Or.inl rfl) (@ba _ _ _ _ _ (@aa _ _ _ _ _ (@aM _ _ _ _) (@aa _ _ _ _ _ (@ba _ _ _ _ _ (@aa _ _ _ _ _ (@aq _ _ _ _ _ _ _ _ bo (@ae _ _ _ _) (@aq _ _ _ _ _ _ _ _ bm (@aq _ _ _ _ _ _ _ _ br (@pv _ 0 _ _ (by rfl) (by trivial) (by decide) (by decide)) (@ae _ _ _ _)) (@ae _ _ _ _))) (@aa _ _ _ _ _ (@dU _ _ _ _ _ _ _ _ _ _ rR (@ba _ _ _ _ _ (@aa _ _ _ _ _ (@ba _ _ _ _ _ (@aa _ _ _ _ _ (@aM _ _ _ _) (@aa _ _ _ _ _ (@ae _ _ _ _) (@af _) (by rfl)) (by rfl))) (@aa _ _ _ _ _ (@ba _ _ _ _ _ (@aa _ _ _ _ _ (@aM _ _ _ _) (@aa _ _ _ _ _ (@ae _ _ _ _) (@af _) (by rfl)) (by rfl))) (@af _) (by rfl)) (by rfl))) (@gG _) (@eJ _ _ _ (@aq _ _ _ _ _ _ _ _ bm (@aq _ _ _ _ _ _ _ _ br (@pv _ 0 _ _ (by rfl) (by trivial) (by decide) (by decide)) (@ae _ _ _ _)) (@ae _ _ _ _)))) (@af _) (by rfl)) (by rfl))) (@af _) (by rfl)) (by rfl))) (by rfl) (by trivial))) (@aS _)) (@ag _ _ _ _ _ (@aB _ _ (2) _ _ _ _ nd rfl (Or.inl rfl) (@ae _ _ _ _) (by rfl) (by trivial)) (@ag _ _ _ _ _ (@aB _ _ (3) _ _ _ _ nd rfl (Or.inl rfl) (@aq _ _ _ _ _ _ _ _ bm (@aq _ _ _ _ _ _ _ _ br (@pv _ 0 _ _ (by rfl) (by trivial) (by decide) (by decide)) (@ae _ _ _ _)) (@ae _ _ _ _)) (by rfl) (by trivial)) (@ag _ _ _ _ _ (@aB _ _ (0) _ _ _ _ nd rfl (Or.inl rfl) (@aq _ _ _ _ _ _ _ _ br (@pv _ 0 _ _ (by rfl) (by trivial) (by decide) (by decide)) (@ae _ _ _ _)) (by rfl) (by trivial)) (@ag _ _ _ _ _ (@cZ _ _ _ _ _ _ _ _ PassesOwn.never rfl (@gk _ _ _ _ _ _ rfl T.range (@aa _ _ _ _ _ (@pv _ 3 _ _ (by rfl) (by trivial) (by decide) (by decide)) (@af _) (by rfl)) (by rfl)) (@aL _ _ (4) _ nd rfl (Or.inl rfl) (by trivial)) (@ag _ _ _ _ _ (@aB _ _ (5) _ _ _ _ nd rfl (Or.inl rfl) (@aq _ _ _ _ _ _ _ _ bm (@pv _ 0 _ _ (by rfl) (by trivial) (by decide) (by decide)) (@ae _ _ _ _)) (by rfl) (by trivial)) (@ag _ _ _ _ _ (@aB _ _ (6) _ _ _ _ nd rfl (Or.inl rfl) (@av _ _ _ _ _ _ _ _ _ _ D_law_length hr rfl (@aa _ _ _ _ _ (@aq _ _ _ _ _ _ _ _ br (@pv _ 0 _ _ (by rfl) (by trivial) (by decide) (by decide)) (@ae _ _ _ _)) (@af _) (by rfl)) (by decide) (by rfl) (by rfl)) (by rfl) (by trivial)) (@ag _ _ _ _ _ (@aB _ _ (0) _ _ _ _ nd rfl (Or.inl rfl) (@aq _ _ _ _ _ _ _ _ br (@pv _ 0 _ _ (by rfl) (by trivial) (by decide) (by decide)) (@ae _ _ _ _)) (by rfl) (by trivial)) (@ao _ _ _ (@bv _ _ _ _ _ _ _ _ (@PW.pt _ _ _ (@iO _ _ _ _ _ _ _ (@aI _ _ _ _ _ _ _ _ vI (@pv _ 5 _ _ (by rfl) (by trivial) (by decide) (by decide)) (@ae _ _ _ _) (aQ _)) (@gL _ _ _ _ (@aI _ _ _ _ _ _ _ _ ia (@pv _ 2 _ _ (by rfl) (by trivial) (by decide) (by decide)) (@ae _ _ _ _) (aQ _))))) (@ag _ _ _ _ _ (@aB _ _ (1) _ _ _ _ nd rfl (Or.inl rfl) (@ba _ _ _ _ _ (@aa _ _ _ _ _ (@aM _ _ _ _) (@aa _ _ _ _ _ (@pv _ 6 _ _ (by rfl) (by trivial) (by decide) (by decide)) (@aa _ _ _ _ _ (@pv _ 1 _ _ (by rfl) (by trivial) (by decide) (by decide)) (@af _) (by rfl)) (by rfl)) (by rfl))) (by rfl) (by trivial)) (@ao _ _ _ (@aB _ _ (2) _ _ _ _ nd rfl (Or.inl rfl) (@aq _ _ _ _ _ _ _ _ bo (@pv _ 2 _ _ (by rfl) (by trivial) (by decide) (by decide)) (@ae _ _ _ _)) (by rfl) (by trivial)))) (@ao _ _ _ (@bv _ _ _ _ _ _ _ _ (@aI _ _ _ _ _ _ _ _ bM (@pv _ 5 _ _ (by rfl) (by trivial) (by decide) (by decide)) (@ae _ _ _ _) (aQ _)) (@ag _ _ _ _ _ (@aB _ _ (1) _ _ _ _ nd rfl (Or.inl rfl) (@ba _ _ _ _ _ (@aa _ _ _ _ _ (@aM _ _ _ _) (@aa _ _ _ _ _ (@pv _ 1 _ _ (by rfl) (by trivial) (by decide) (by decide)) (@aa _ _ _ _ _ (@ba _ _ _ _ _ (@aa _ _ _ _ _ (@aM _ _ _ _) (@af _) (by rfl))) (@af _) (by rfl)) (by rfl)) (by rfl))) (by rfl) (by trivial)) (@ao _ _ _ (@aB _ _ (2) _ _ _ _ nd rfl (Or.inl rfl) (@aq _ _ _ _ _ _ _ _ bo (@pv _ 2 _ _ (by rfl) (by trivial) (by decide) (by decide)) (@ae _ _ _ _)) (by rfl) (by trivial)))) (@ag _ _ _ _ _ (@aB _ _ (1) _ _ _ _ nd rfl (Or.inl rfl) (@ba _ _ _ _ _ (@aa _ _ _ _ _ (@aM _ _ _ _) (@aa _ _ _ _ _ (@ba _ _ _ _ _ (@aa _ _ _ _ _ (@aM _ _ _ _) (@aa _ _ _ _ _ (@pv _ 6 _ _ (by rfl) (by trivial) (by decide) (by decide)) (@aa _ _ _ _ _ (@ba _ _ _ _ _ (@aa _ _ _ _ _ (@aM _ _ _ _) (@af _) (by rfl))) (@af _) (by rfl)) (by rfl)) (by rfl))) (@aa _ _ _ _ _ (@pv _ 1 _ _ (by rfl) (by trivial) (by decide) (by decide)) (@af _) (by rfl)) (by rfl)) (by rfl))) (by rfl) (by trivial)) (@ao _ _ _ (@aB _ _ (2) _ _ _ _ nd rfl (Or.inl rfl) (@aq _ _ _ _ _ _ _ _ bo (@pv _ 2 _ _ (by rfl) (by trivial) (by decide) (by decide)) (@ae _ _ _ _)) (by rfl) (by trivial))))))))))) (by intro _; rfl)) (@ao _ _ _ (@aD _ _ _ _ (@aG _ _ _ _ _ _ _ cP (@cL _ _ _ _ (@aa _ _ _ _ _ (@pv _ 1 _ _ (by rfl) (by trivial) (by decide) (by decide)) (@aa _ _ _ _ _ (@ba _ _ _ _ _ (@aa _ _ _ _ _ (@aM _ _ _ _) (@aa _ _ _ _ _ (@ba _ _ _ _ _ (@aa _ _ _ _ _ (@ae _ _ _ _) (@aa _ _ _ _ _ (@ba _ _ _ _ _ (@af _)) (@af _) (by rfl)) (by rfl))) (@aa _ _ _ _ _ (@ba _ _ _ _ _ (@aa _ _ _ _ _ (@aM _ _ _ _) (@af _) (by rfl))) (@af _) (by rfl)) (by rfl)) (by rfl))) (@af _) (by rfl)) (by rfl))) (@bp _ _ _ _ _ _ _ _ _ oV rfl T.int (by decide +kernel) (@aa _ _ _ _ _ (@fu _ _ _ _ _ _ _ _ ia (@pv _ 2 _ _ (by rfl) (by trivial) (by decide) (by decide)) (@ae _ _ _ _) (aQ _)) (@af _) (by rfl)) (by decide) (by decide) (by rfl) (by rfl)) (fun _ _ => rfl)))))))))), ?_⟩
 refine ⟨z1, fun a0 h0 => ?_⟩
 have q0 := ah h0 (.tup [.str "whole"])
 refine gnm ?_
 dsimp only
 refine fk (fun σ H' => ∃ (v : V) (k : Kd), σ = [some (.int n), some v, none, none, none, none, none] /\ az H H' /\ Rep H' k.dv v /\ el k /\ k.size = 1 /\ tms k = 1) ?_ (fun N hN => ?_)
 ·rintro σ H1 ⟨v, k, rfl, s1, R1, g1, sz1, t1⟩
  refine ⟨_, rfl, _, _, rfl, rfl, ⟨by decide, by decide⟩, _, _, rfl, rfl, mp (by decide), ?_⟩
  have m7 := md (n / 81) 7 (by decide)
  refine ⟨_, rfl, _, _, rfl, rfl, ⟨by decide, by decide⟩, ?_⟩
  refine ⟨_, rfl, n / 81 % 7, rfl, by omega, by omega, oP (lo := 0) (n := (n / 81 % 7).toNat) (fun i σ H' => ∃ (m : Int) (v : V) (k : Kd) (o4 o5 o6 : Option V), σ = [some (.int m), some v, some (.int k.size), some (.int (n / 81 % 7)), o4, o5, o6] /\ az H H' /\ Rep H' k.dv v /\ el k /\ tms k <= 5 ^ i) ⟨_, v, k, _, _, _, by rw [sz1]; rfl, s1, R1, g1, by rw [t1]; exact Nat.le_refl _⟩ ?_ ?_⟩
  ·rintro i σ H2 hi ⟨m, v, k, o4, o5, o6, rfl, s2, R2, g2, t2⟩
   refine ⟨_, rfl, _, _, rfl, rfl, mp (by decide), ?_⟩
   refine ⟨_, rfl, _, _, rfl, rfl, ⟨by decide, by decide⟩, _, rfl, fun H3 l c ps s3 Rl hL => ?_⟩
   refine ⟨_, rfl, _, _, rfl, rfl, ⟨by decide, by decide⟩, ?_⟩
   have t5 : 5 ^ (i + 1) = 5 ^ i * 5 := Nat.pow_succ ..
   have tk := jN k
   have row : ∀ (H4 : Hp) (p : Addr), H3 = H4 -> H4 p = none -> az H (upd H4 p (.tup [.str "row", l, v])) /\ Rep (upd H4 p (.tup [.str "row", l, v])) (Kd.row c ps k).dv (.ref p) := fun H4 p e hp => by
    subst e
    have s4 := ah hp (.tup [.str "row", l, v])
    exact ⟨s2.trans (s3.trans s4), jQ ad (Rl.mono s4) ((R2.mono s3).mono s4)⟩
   refine ⟨_, rfl, _, _, rfl, rfl, _, rfl, aW (fun h1 => ?_) (fun h1 => ⟨_, rfl, _, _, rfl, rfl, _, rfl, aW (fun h2 => ?_) (fun h2 => ?_)⟩)⟩
   ·refine ⟨_, rfl, _, rfl, z3, fun p hp => ?_⟩
    obtain ⟨s4, R4⟩ := row H3 p rfl hp
    exact ⟨_, rfl, _, _, rfl, rfl, _, _, .row c ps k, _, _, _, rfl, s4, R4, ⟨hL, g2⟩, by show 4 * tms k <= _; omega⟩
   ·refine ⟨_, rfl, _, rfl, z3, fun p hp => ?_⟩
    obtain ⟨s4, R4⟩ := row H3 p rfl hp
    exact ⟨_, rfl, _, _, rfl, rfl, _, _, .row c ps k, _, _, _, rfl, s4, R4, ⟨hL, g2⟩, by show 4 * tms k <= _; omega⟩
   ·refine ⟨_, rfl, rfl, _, rfl, aW (fun h3 => ?_) (fun h3 => ?_)⟩
    ·refine ⟨_, rfl, z1, fun p1 hp1 => ⟨z3, fun p hp => ?_⟩⟩
     have s4 := ah hp1 (.tup [.str "whole"])
     have s5 := ah hp (.tup [.str "pair", v, .ref p1])
     exact ⟨_, rfl, _, _, rfl, rfl, _, _, .pair k .whole, _, _, _, rfl, s2.trans (s3.trans (s4.trans s5)), kO ad (((R2.mono s3).mono s4).mono s5) (eE (s5 _ _ ad)), ⟨g2, True.intro⟩, by show tms k + 1 <= _; omega⟩
    ·refine ⟨_, rfl, z1, fun p1 hp1 => ⟨z3, fun p2 hp2 => ⟨_, rfl, z3, fun p hp => ?_⟩⟩⟩
     have s4 := ah hp1 (.tup [.str "whole"])
     have s5 := ah hp2 (.tup [.str "row", l, .ref p1])
     have s6 := ah hp (.tup [.str "pair", .ref p2, v])
     have e3 : ((k.size : Int) + 3) = ((Kd.pair (.row c ps .whole) k).size : Int) := by show _ = ((1 + 1 + k.size + 1 : Nat) : Int); omega
     refine ⟨_, rfl, _, _, rfl, rfl, m / 432, .ref p, .pair (.row c ps .whole) k, some (.int (0 + i)), some (.int (m % 4)), some l, ?_, s2.trans (s3.trans (s4.trans (s5.trans s6))), kO ad (jQ (s6 _ _ ad) (((Rl.mono s4).mono s5).mono s6) (eE (s6 _ _ (s5 _ _ ad)))) ((((R2.mono s3).mono s4).mono s5).mono s6), ⟨⟨hL, True.intro⟩, g2⟩, by show 4 * 1 + tms k <= _; omega⟩
     rw [<- e3]; rfl
  ·rintro σ H2 ⟨m, v, k, o4, o5, o6, rfl, s2, R2, g2, t2⟩
   have t6 : tms k <= 15625 := Nat.le_trans t2 (Nat.le_trans (Nat.pow_le_pow_right (by decide) (show (n / 81 % 7).toNat <= 6 by omega)) (by decide))
   refine ⟨_, rfl, Nat.zero_le _, fun p0 hp0 => ⟨z2, fun p1 hp1 => ⟨z1, fun p2 hp2 => ⟨z3, fun p3 hp3 => ⟨z2, fun L hL => ⟨_, rfl, _, _, rfl, rfl, .inr ⟨_, rfl, ?_⟩⟩⟩⟩⟩⟩⟩
   have s3 := ah hp0 (.tup [])
   have s4 := ah hp1 (.tup [.int 2, .ref p0])
   have s5 := ah hp2 (.tup [.str "whole"])
   have s6 := ah hp3 (.tup [.str "row", .ref p1, .ref p2])
   have s7 := ah hL (.lst [v, .ref p3])
   have s8 := s2.trans (s3.trans (s4.trans (s5.trans (s6.trans s7))))
   by_cases h : 12 < k.size
   ·rw [show (decide ((12 : Int) < (k.size : Int))) = true from decide_eq_true (by omega)]
    refine ⟨L, _, _, .ref p3, rfl, rfl, SqL.of ad, ai (j := 1) rfl, q _ _ (.row 2 [] .whole) s8 (jQ (s7 _ _ ad) ?_ (eE (s7 _ _ (s6 _ _ ad)))) ⟨⟨by decide, by decide, by simp, Nat.zero_le _⟩, True.intro⟩ (by decide) (by decide)⟩
    exact jX (us := []) (s7 _ _ (s6 _ _ (s5 _ _ ad))) (s7 _ _ (s6 _ _ (s5 _ _ (s4 _ _ ad)))) (by simp only [aJ, List.map_nil, Reps])
   ·rw [show (decide ((12 : Int) < (k.size : Int))) = false from decide_eq_false (by omega)]
    exact ⟨L, _, _, v, rfl, rfl, SqL.of ad, ai (j := 0) rfl, q _ _ k s8 (((((R2.mono s3).mono s4).mono s5).mono s6).mono s7) g2 (by omega) t6⟩
 ·refine ⟨_, rfl, _, _, rfl, rfl, mp (by decide), rfl, _, rfl, aW (fun h1 => ?_) (fun h1 => ?_)⟩
  ·refine ⟨_, rfl, _, _, rfl, rfl, ⟨by decide, by decide⟩, _, _, rfl, rfl, mp (by decide), _, _, rfl, rfl, z2, fun b1 hb1 => ⟨z2, fun b2 hb2 => ⟨z2, fun b3 hb3 => ?_⟩⟩⟩
   have m9 := md (n / 3) 9 (by decide)
   have m3 := md (n / 27) 3 (by decide)
   have s1 := ah hb1 (.tup [.str "a", .int 1])
   have s2 := ah hb2 (.tup [.str "k", .int 3])
   have s3 := ah hb3 (.tup [.ref b1, .ref b2])
   have R3 : Reps (upd (upd (upd (upd H a0 (.tup [.str "whole"])) b1 (.tup [.str "a", .int 1])) b2 (.tup [.str "k", .int 3])) b3 (.tup [.ref b1, .ref b2])) (aJ [("a", 1), ("k", 3)]) [.ref b1, .ref b2] := by
    simp only [aJ, List.map_cons, List.map_nil, Reps, Rep]
    exact ⟨_, _, rfl, ⟨b1, _, rfl, s3 _ _ (s2 _ _ ad), _, _, rfl, rfl, _, _, rfl, rfl, rfl⟩, _, _, rfl, ⟨b2, _, rfl, s3 _ _ ad, _, _, rfl, rfl, _, _, rfl, rfl, rfl⟩, rfl⟩
   have fin : ∀ (H1 : Hp) (b4 : Addr) (us : List V) (ps : List Pr), az H H1 -> H1 b4 = some (.tup us) -> Reps H1 (aJ ps) us -> (∀ p ∈ ps, p ∈ [(("a", 1) : Pr), ("k", 3)]) -> ps.length <= 2 -> 2 <= sizeLine /\ ∀ p, H1 p = none -> 2 <= sizeLine /\ ∀ g, upd H1 p (.tup [.int (1 + n / 3 % 9), .ref b4]) g = none -> cV 1 (.ref g) [some (.int n), some (.ref a0), none, none, none, none, none] (upd (upd H1 p (.tup [.int (1 + n / 3 % 9), .ref b4])) g (.tup [.str "place", .ref p])) N := fun H1 b4 us ps s4 h4 R4 hp l4 => ⟨z2, fun p hp' => ⟨z2, fun g hg => by
    have s5 := ah hp' (.tup [.int (1 + n / 3 % 9), .ref b4])
    have s6 := ah hg (.tup [.str "place", .ref p])
    refine hN _ _ ⟨_, .place (1 + n / 3 % 9) ps, rfl, s4.trans (s5.trans s6), oO ad (jX (s6 _ _ ad) (s6 _ _ (s5 _ _ h4)) ((R4.mono s5).mono s6)), ⟨⟨by omega, by omega, fun x hx => ?_, by omega⟩, by omega⟩, rfl, rfl⟩
    rcases List.mem_cons.mp (hp x hx) with rfl | h
    ·exact ⟨.inl rfl, by decide, by decide⟩
    ·rw [List.mem_singleton.mp h]; exact ⟨.inr (.inl rfl), by decide, by decide⟩⟩⟩
   refine ⟨_, rfl, _, _, rfl, rfl, ⟨by decide, by decide⟩, _, _, rfl, rfl, mp (by decide), _, rfl, b3, _, rfl, SqT.of ad, fun e => ?_, fun b4 hb4 => ?_⟩
   ·exact fin _ b3 _ [("a", 1), ("k", 3)] (q0.trans (s1.trans (s2.trans s3))) ad R3 (fun p hp => hp) (Nat.le_refl _)
   ·have s4 := ah hb4 (.tup (cG [V.ref b1, .ref b2] none (some (n / 27 % 3))))
    obtain ⟨j, ej⟩ : ∃ j, cG [V.ref b1, .ref b2] none (some (n / 27 % 3)) = [V.ref b1, .ref b2].take j := ⟨_, rfl⟩
    refine fin _ b4 _ (([("a", 1), ("k", 3)] : List Pr).take j) (q0.trans (s1.trans (s2.trans (s3.trans s4)))) ad ?_ (fun p hp => List.mem_of_mem_take hp) (by rw [List.length_take]; exact Nat.min_le_right _ _)
    rw [aJ, List.map_take]
    have R4 := iL j (R3.mono s4)
    rwa [<- ej] at R4
  ·exact tnx (hN _ _ ⟨_, .whole, rfl, q0, eE ad, True.intro, rfl, rfl⟩)
end
abbrev eL : Stmt := top 8
abbrev gm : Stmt := top 24
abbrev fZ : Stmt := top 25
def cnt (nums : List Pr) : Kd -> Int
 | .whole => 1
 | .place _ _ => 1
 | .row c ps k => amt nums c ps * cnt nums k
 | .pair i j => cnt nums i + cnt nums j
def rws (nums : List Pr) : Kd -> Int
 | .whole => 1
 | .place _ _ => 1
 | .row c ps k => 1 + amt nums c ps * rws nums k
 | .pair i j => rws nums i + rws nums j
theorem bK {nums : List Pr} (hn : NB nums) : ∀ {k : Kd}, el k -> 1 <= rws nums k /\ 0 <= cnt nums k /\ cnt nums k <= rws nums k
 | .whole, _ => ⟨Int.le_refl 1, by show (0 : Int) <= 1; decide, Int.le_refl 1⟩
 | .place _ _, _ => ⟨Int.le_refl 1, by show (0 : Int) <= 1; decide, Int.le_refl 1⟩
 | .row c ps k, h => by
  obtain ⟨h1, h3, h4⟩ := bK hn h.2
  have h2 := (bZ hn h.1).1
  have a1 : 0 <= amt nums c ps * rws nums k := Int.mul_nonneg h2 (by omega)
  have a2 : 0 <= amt nums c ps * cnt nums k := Int.mul_nonneg h2 h3
  have a3 : amt nums c ps * cnt nums k <= amt nums c ps * rws nums k := Int.mul_le_mul_of_nonneg_left h4 h2
  exact ⟨by show 1 <= 1 + amt nums c ps * rws nums k; omega, a2, by show amt nums c ps * cnt nums k <= 1 + amt nums c ps * rws nums k; omega⟩
 | .pair i j, h => by
  obtain ⟨h1, h3, h4⟩ := bK hn h.1
  obtain ⟨h5, h6, h7⟩ := bK hn h.2
  exact ⟨by show 1 <= rws nums i + rws nums j; omega, by show 0 <= cnt nums i + cnt nums j; omega, by show cnt nums i + cnt nums j <= rws nums i + rws nums j; omega⟩
def eQ (g : List Pr -> Kd -> Int) (n : Nat) : Sp := fun vs H Q _ => ∃ (v : V) (d : Addr) (k : Kd) (nums : List Pr), vs = [v, .ref d] /\ Rep H k.dv v /\ k.size <= n /\ el k /\ NB nums /\ H d = some (.dK (dk nums)) /\ ∀ H', az H H' -> Q (.int (g nums k)) H'
section
variable {P : Program} {w : World} {K : PySem.W.Frag} {mg : Str -> Option Value} {base : Heap}
theorem qm : aP ["kind", "numbers"] ["kind", "numbers"] (aj eL) := ⟨rfl, rfl, rfl, by decide +kernel, rfl, by decide +kernel, by decide +kernel⟩
theorem pK {f : Addr} {fd : FuncData} {k0 n : Nat} (F : Fun K "count_in" "count_in" eL f fd) (T : Txt K mg) (Dworth : Def P w K mg base k0 "worth" ["a", "numbers"] cD) (Dcount_in : Def P w K mg base k0 "count_in" ["kind", "numbers"] (eQ cnt n)) : bg P w K mg base CX0 (k0 + 1) f fd ["kind", "numbers"] (eQ cnt (n + 1)) := by
 refine F.ok qm (fun vs H Q E h => ?_) (fun cdv A outer s H vs Q E hr h => ?_)
 ·obtain ⟨v, d, k, nums, rfl, _⟩ := h
  rfl
 obtain ⟨v, d, k, nums, rfl, R, kn, kg, hn, hd, q⟩ := h
 obtain ⟨b, vs, rfl, hb, hv⟩ := Kd.inv R
 refine ⟨_, (@ag _ _ _ _ _ (@bv _ _ _ _ _ _ _ _ (@aI _ _ _ _ _ _ _ _ bM (@aG _ _ _ _ _ _ _ aE (@pv _ 0 _ _ (by rfl) (by trivial) (by decide) (by decide)) (@ae _ _ _ _) (fun _ _ => rfl)) (@aM _ _ _ _) (aQ _)) (@ao _ _ _ (@aD _ _ _ _ (@aq _ _ _ _ _ _ _ _ bF (@av _ _ _ _ _ _ _ _ _ _ Dworth hr rfl (@aa _ _ _ _ _ (@aG _ _ _ _ _ _ _ aE (@pv _ 0 _ _ (by rfl) (by trivial) (by decide) (by decide)) (@ae _ _ _ _) (fun _ _ => rfl)) (@aa _ _ _ _ _ (@pv _ 1 _ _ (by rfl) (by trivial) (by decide) (by decide)) (@af _) (by rfl)) (by rfl)) (by decide) (by rfl) (by rfl)) (@av _ _ _ _ _ _ _ _ _ _ Dcount_in hr rfl (@aa _ _ _ _ _ (@aG _ _ _ _ _ _ _ aE (@pv _ 0 _ _ (by rfl) (by trivial) (by decide) (by decide)) (@ae _ _ _ _) (fun _ _ => rfl)) (@aa _ _ _ _ _ (@pv _ 1 _ _ (by rfl) (by trivial) (by decide) (by decide)) (@af _) (by rfl)) (by rfl)) (by decide) (by rfl) (by rfl))))) (@aS _)) (@ag _ _ _ _ _ (@bv _ _ _ _ _ _ _ _ (@aI _ _ _ _ _ _ _ _ bM (@aG _ _ _ _ _ _ _ aE (@pv _ 0 _ _ (by rfl) (by trivial) (by decide) (by decide)) (@ae _ _ _ _) (fun _ _ => rfl)) (@aM _ _ _ _) (aQ _)) (@ao _ _ _ (@aD _ _ _ _ (@aq _ _ _ _ _ _ _ _ bo (@av _ _ _ _ _ _ _ _ _ _ Dcount_in hr rfl (@aa _ _ _ _ _ (@aG _ _ _ _ _ _ _ aE (@pv _ 0 _ _ (by rfl) (by trivial) (by decide) (by decide)) (@ae _ _ _ _) (fun _ _ => rfl)) (@aa _ _ _ _ _ (@pv _ 1 _ _ (by rfl) (by trivial) (by decide) (by decide)) (@af _) (by rfl)) (by rfl)) (by decide) (by rfl) (by rfl)) (@av _ _ _ _ _ _ _ _ _ _ Dcount_in hr rfl (@aa _ _ _ _ _ (@aG _ _ _ _ _ _ _ aE (@pv _ 0 _ _ (by rfl) (by trivial) (by decide) (by decide)) (@ae _ _ _ _) (fun _ _ => rfl)) (@aa _ _ _ _ _ (@pv _ 1 _ _ (by rfl) (by trivial) (by decide) (by decide)) (@af _) (by rfl)) (by rfl)) (by decide) (by rfl) (by rfl))))) (@aS _)) (@ao _ _ _ (@aD _ _ _ _ (@ae _ _ _ _))))), ?_⟩
 cases k with
 | whole =>
  subst hv
  refine ⟨_, rfl, b, _, 0, .str "whole", rfl, rfl, SqT.of hb, ai (j := 0) rfl, rfl, _, rfl, aW (fun h => absurd h (by decide +kernel)) (fun _ => ?_)⟩
  refine ⟨_, rfl, b, _, 0, .str "whole", rfl, rfl, SqT.of hb, ai (j := 0) rfl, rfl, _, rfl, aW (fun h => absurd h (by decide +kernel)) (fun _ => ?_)⟩
  exact q H (az.refl H)
 | place c ps =>
  obtain ⟨l, rfl, Rl⟩ := hv
  refine ⟨_, rfl, b, _, 0, .str "place", rfl, rfl, SqT.of hb, ai (j := 0) rfl, rfl, _, rfl, aW (fun h => absurd h (by decide +kernel)) (fun _ => ?_)⟩
  refine ⟨_, rfl, b, _, 0, .str "place", rfl, rfl, SqT.of hb, ai (j := 0) rfl, rfl, _, rfl, aW (fun h => absurd h (by decide +kernel)) (fun _ => ?_)⟩
  exact q H (az.refl H)
 | row c ps j =>
  obtain ⟨l, u, rfl, Rl, Ru⟩ := hv
  have jn : j.size <= n := by have : j.size + 1 <= n + 1 := kn; omega
  obtain ⟨am0, am1⟩ := bZ hn kg.1
  refine ⟨_, rfl, b, _, 0, .str "row", rfl, rfl, SqT.of hb, ai (j := 0) rfl, rfl, _, rfl, aW (fun _ => ?_) (fun h => absurd (by decide +kernel) h)⟩
  refine ⟨_, rfl, b, _, 1, l, rfl, rfl, SqT.of hb, ai (j := 1) rfl, _, rfl, l, d, c, ps, nums, rfl, Rl, kg.1, hn, hd, fun H1 s1 => ?_⟩
  refine ⟨_, rfl, b, _, 2, u, rfl, rfl, SqT.of (s1 _ _ hb), ai (j := 2) rfl, _, rfl, u, d, j, nums, rfl, Ru.mono s1, jn, kg.2, hn, s1 _ _ hd, fun H2 s2 => ⟨_, _, rfl, rfl, .inl ⟨by omega, by omega⟩, q H2 (s1.trans s2)⟩⟩
 | pair i j =>
  obtain ⟨l, u, rfl, Rl, Ru⟩ := hv
  have ks : i.size + j.size + 1 <= n + 1 := kn
  refine ⟨_, rfl, b, _, 0, .str "pair", rfl, rfl, SqT.of hb, ai (j := 0) rfl, rfl, _, rfl, aW (fun h => absurd h (by decide +kernel)) (fun _ => ?_)⟩
  refine ⟨_, rfl, b, _, 0, .str "pair", rfl, rfl, SqT.of hb, ai (j := 0) rfl, rfl, _, rfl, aW (fun _ => ?_) (fun h => absurd (by decide +kernel) h)⟩
  refine ⟨_, rfl, b, _, 1, l, rfl, rfl, SqT.of hb, ai (j := 1) rfl, _, rfl, l, d, i, nums, rfl, Rl, by omega, kg.1, hn, hd, fun H1 s1 => ?_⟩
  exact ⟨_, rfl, b, _, 2, u, rfl, rfl, SqT.of (s1 _ _ hb), ai (j := 2) rfl, _, rfl, u, d, j, nums, rfl, Ru.mono s1, by omega, kg.2, hn, s1 _ _ hd, fun H2 s2 => ⟨_, _, rfl, rfl, q H2 (s1.trans s2)⟩⟩
theorem sT : aP ["_law_kind_here", "_law_numbers_here"] ["_law_kind_here", "_law_numbers_here"] (aj gm) := ⟨rfl, rfl, rfl, by decide +kernel, rfl, by decide +kernel, by decide +kernel⟩
theorem sX {f : Addr} {fd : FuncData} {k0 n : Nat} (F : Fun K "_law_many" "_law_many" gm f fd) (T : Txt K mg) (D_law_worth : Def P w K mg base k0 "_law_worth" ["_law_length_here", "_law_numbers_here"] cD) (D_law_many : Def P w K mg base k0 "_law_many" ["_law_kind_here", "_law_numbers_here"] (eQ cnt n)) : bg P w K mg base CX0 (k0 + 1) f fd ["_law_kind_here", "_law_numbers_here"] (eQ cnt (n + 1)) := by
 refine F.ok sT (fun vs H Q E h => ?_) (fun cdv A outer s H vs Q E hr h => ?_)
 ·obtain ⟨v, d, k, nums, rfl, _⟩ := h
  rfl
 obtain ⟨v, d, k, nums, rfl, R, kn, kg, hn, hd, q⟩ := h
 obtain ⟨b, vs, rfl, hb, hv⟩ := Kd.inv R
 refine ⟨_, (@ag _ _ _ _ _ (@bv _ _ _ _ _ _ _ _ (@aI _ _ _ _ _ _ _ _ bM (@aG _ _ _ _ _ _ _ aE (@pv _ 0 _ _ (by rfl) (by trivial) (by decide) (by decide)) (@ae _ _ _ _) (fun _ _ => rfl)) (@aM _ _ _ _) (aQ _)) (@ao _ _ _ (@aD _ _ _ _ (@aq _ _ _ _ _ _ _ _ bF (@av _ _ _ _ _ _ _ _ _ _ D_law_worth hr rfl (@aa _ _ _ _ _ (@aG _ _ _ _ _ _ _ aE (@pv _ 0 _ _ (by rfl) (by trivial) (by decide) (by decide)) (@ae _ _ _ _) (fun _ _ => rfl)) (@aa _ _ _ _ _ (@pv _ 1 _ _ (by rfl) (by trivial) (by decide) (by decide)) (@af _) (by rfl)) (by rfl)) (by decide) (by rfl) (by rfl)) (@av _ _ _ _ _ _ _ _ _ _ D_law_many hr rfl (@aa _ _ _ _ _ (@aG _ _ _ _ _ _ _ aE (@pv _ 0 _ _ (by rfl) (by trivial) (by decide) (by decide)) (@ae _ _ _ _) (fun _ _ => rfl)) (@aa _ _ _ _ _ (@pv _ 1 _ _ (by rfl) (by trivial) (by decide) (by decide)) (@af _) (by rfl)) (by rfl)) (by decide) (by rfl) (by rfl))))) (@aS _)) (@ag _ _ _ _ _ (@bv _ _ _ _ _ _ _ _ (@aI _ _ _ _ _ _ _ _ bM (@aG _ _ _ _ _ _ _ aE (@pv _ 0 _ _ (by rfl) (by trivial) (by decide) (by decide)) (@ae _ _ _ _) (fun _ _ => rfl)) (@aM _ _ _ _) (aQ _)) (@ao _ _ _ (@aD _ _ _ _ (@aq _ _ _ _ _ _ _ _ bo (@av _ _ _ _ _ _ _ _ _ _ D_law_many hr rfl (@aa _ _ _ _ _ (@aG _ _ _ _ _ _ _ aE (@pv _ 0 _ _ (by rfl) (by trivial) (by decide) (by decide)) (@ae _ _ _ _) (fun _ _ => rfl)) (@aa _ _ _ _ _ (@pv _ 1 _ _ (by rfl) (by trivial) (by decide) (by decide)) (@af _) (by rfl)) (by rfl)) (by decide) (by rfl) (by rfl)) (@av _ _ _ _ _ _ _ _ _ _ D_law_many hr rfl (@aa _ _ _ _ _ (@aG _ _ _ _ _ _ _ aE (@pv _ 0 _ _ (by rfl) (by trivial) (by decide) (by decide)) (@ae _ _ _ _) (fun _ _ => rfl)) (@aa _ _ _ _ _ (@pv _ 1 _ _ (by rfl) (by trivial) (by decide) (by decide)) (@af _) (by rfl)) (by rfl)) (by decide) (by rfl) (by rfl))))) (@aS _)) (@ao _ _ _ (@aD _ _ _ _ (@ae _ _ _ _))))), ?_⟩
 cases k with
 | whole =>
  subst hv
  refine ⟨_, rfl, b, _, 0, .str "whole", rfl, rfl, SqT.of hb, ai (j := 0) rfl, rfl, _, rfl, aW (fun h => absurd h (by decide +kernel)) (fun _ => ?_)⟩
  refine ⟨_, rfl, b, _, 0, .str "whole", rfl, rfl, SqT.of hb, ai (j := 0) rfl, rfl, _, rfl, aW (fun h => absurd h (by decide +kernel)) (fun _ => ?_)⟩
  exact q H (az.refl H)
 | place c ps =>
  obtain ⟨l, rfl, Rl⟩ := hv
  refine ⟨_, rfl, b, _, 0, .str "place", rfl, rfl, SqT.of hb, ai (j := 0) rfl, rfl, _, rfl, aW (fun h => absurd h (by decide +kernel)) (fun _ => ?_)⟩
  refine ⟨_, rfl, b, _, 0, .str "place", rfl, rfl, SqT.of hb, ai (j := 0) rfl, rfl, _, rfl, aW (fun h => absurd h (by decide +kernel)) (fun _ => ?_)⟩
  exact q H (az.refl H)
 | row c ps j =>
  obtain ⟨l, u, rfl, Rl, Ru⟩ := hv
  have jn : j.size <= n := by have : j.size + 1 <= n + 1 := kn; omega
  obtain ⟨am0, am1⟩ := bZ hn kg.1
  refine ⟨_, rfl, b, _, 0, .str "row", rfl, rfl, SqT.of hb, ai (j := 0) rfl, rfl, _, rfl, aW (fun _ => ?_) (fun h => absurd (by decide +kernel) h)⟩
  refine ⟨_, rfl, b, _, 1, l, rfl, rfl, SqT.of hb, ai (j := 1) rfl, _, rfl, l, d, c, ps, nums, rfl, Rl, kg.1, hn, hd, fun H1 s1 => ?_⟩
  refine ⟨_, rfl, b, _, 2, u, rfl, rfl, SqT.of (s1 _ _ hb), ai (j := 2) rfl, _, rfl, u, d, j, nums, rfl, Ru.mono s1, jn, kg.2, hn, s1 _ _ hd, fun H2 s2 => ⟨_, _, rfl, rfl, .inl ⟨by omega, by omega⟩, q H2 (s1.trans s2)⟩⟩
 | pair i j =>
  obtain ⟨l, u, rfl, Rl, Ru⟩ := hv
  have ks : i.size + j.size + 1 <= n + 1 := kn
  refine ⟨_, rfl, b, _, 0, .str "pair", rfl, rfl, SqT.of hb, ai (j := 0) rfl, rfl, _, rfl, aW (fun h => absurd h (by decide +kernel)) (fun _ => ?_)⟩
  refine ⟨_, rfl, b, _, 0, .str "pair", rfl, rfl, SqT.of hb, ai (j := 0) rfl, rfl, _, rfl, aW (fun _ => ?_) (fun h => absurd (by decide +kernel) h)⟩
  refine ⟨_, rfl, b, _, 1, l, rfl, rfl, SqT.of hb, ai (j := 1) rfl, _, rfl, l, d, i, nums, rfl, Rl, by omega, kg.1, hn, hd, fun H1 s1 => ?_⟩
  exact ⟨_, rfl, b, _, 2, u, rfl, rfl, SqT.of (s1 _ _ hb), ai (j := 2) rfl, _, rfl, u, d, j, nums, rfl, Ru.mono s1, by omega, kg.2, hn, s1 _ _ hd, fun H2 s2 => ⟨_, _, rfl, rfl, q H2 (s1.trans s2)⟩⟩
theorem sF : aP ["_law_kind_here", "_law_numbers_here"] ["_law_kind_here", "_law_numbers_here"] (aj fZ) := ⟨rfl, rfl, rfl, by decide +kernel, rfl, by decide +kernel, by decide +kernel⟩
theorem sO {f : Addr} {fd : FuncData} {k0 n : Nat} (F : Fun K "_law_rows" "_law_rows" fZ f fd) (T : Txt K mg) (D_law_worth : Def P w K mg base k0 "_law_worth" ["_law_length_here", "_law_numbers_here"] cD) (D_law_rows : Def P w K mg base k0 "_law_rows" ["_law_kind_here", "_law_numbers_here"] (eQ rws n)) : bg P w K mg base CX0 (k0 + 1) f fd ["_law_kind_here", "_law_numbers_here"] (eQ rws (n + 1)) := by
 refine F.ok sF (fun vs H Q E h => ?_) (fun cdv A outer s H vs Q E hr h => ?_)
 ·obtain ⟨v, d, k, nums, rfl, _⟩ := h
  rfl
 obtain ⟨v, d, k, nums, rfl, R, kn, kg, hn, hd, q⟩ := h
 obtain ⟨b, vs, rfl, hb, hv⟩ := Kd.inv R
 refine ⟨_, (@ag _ _ _ _ _ (@bv _ _ _ _ _ _ _ _ (@aI _ _ _ _ _ _ _ _ bM (@aG _ _ _ _ _ _ _ aE (@pv _ 0 _ _ (by rfl) (by trivial) (by decide) (by decide)) (@ae _ _ _ _) (fun _ _ => rfl)) (@aM _ _ _ _) (aQ _)) (@ao _ _ _ (@aD _ _ _ _ (@aq _ _ _ _ _ _ _ _ bo (@ae _ _ _ _) (@aq _ _ _ _ _ _ _ _ bF (@av _ _ _ _ _ _ _ _ _ _ D_law_worth hr rfl (@aa _ _ _ _ _ (@aG _ _ _ _ _ _ _ aE (@pv _ 0 _ _ (by rfl) (by trivial) (by decide) (by decide)) (@ae _ _ _ _) (fun _ _ => rfl)) (@aa _ _ _ _ _ (@pv _ 1 _ _ (by rfl) (by trivial) (by decide) (by decide)) (@af _) (by rfl)) (by rfl)) (by decide) (by rfl) (by rfl)) (@av _ _ _ _ _ _ _ _ _ _ D_law_rows hr rfl (@aa _ _ _ _ _ (@aG _ _ _ _ _ _ _ aE (@pv _ 0 _ _ (by rfl) (by trivial) (by decide) (by decide)) (@ae _ _ _ _) (fun _ _ => rfl)) (@aa _ _ _ _ _ (@pv _ 1 _ _ (by rfl) (by trivial) (by decide) (by decide)) (@af _) (by rfl)) (by rfl)) (by decide) (by rfl) (by rfl)))))) (@aS _)) (@ag _ _ _ _ _ (@bv _ _ _ _ _ _ _ _ (@aI _ _ _ _ _ _ _ _ bM (@aG _ _ _ _ _ _ _ aE (@pv _ 0 _ _ (by rfl) (by trivial) (by decide) (by decide)) (@ae _ _ _ _) (fun _ _ => rfl)) (@aM _ _ _ _) (aQ _)) (@ao _ _ _ (@aD _ _ _ _ (@aq _ _ _ _ _ _ _ _ bo (@av _ _ _ _ _ _ _ _ _ _ D_law_rows hr rfl (@aa _ _ _ _ _ (@aG _ _ _ _ _ _ _ aE (@pv _ 0 _ _ (by rfl) (by trivial) (by decide) (by decide)) (@ae _ _ _ _) (fun _ _ => rfl)) (@aa _ _ _ _ _ (@pv _ 1 _ _ (by rfl) (by trivial) (by decide) (by decide)) (@af _) (by rfl)) (by rfl)) (by decide) (by rfl) (by rfl)) (@av _ _ _ _ _ _ _ _ _ _ D_law_rows hr rfl (@aa _ _ _ _ _ (@aG _ _ _ _ _ _ _ aE (@pv _ 0 _ _ (by rfl) (by trivial) (by decide) (by decide)) (@ae _ _ _ _) (fun _ _ => rfl)) (@aa _ _ _ _ _ (@pv _ 1 _ _ (by rfl) (by trivial) (by decide) (by decide)) (@af _) (by rfl)) (by rfl)) (by decide) (by rfl) (by rfl))))) (@aS _)) (@ao _ _ _ (@aD _ _ _ _ (@ae _ _ _ _))))), ?_⟩
 cases k with
 | whole =>
  subst hv
  refine ⟨_, rfl, b, _, 0, .str "whole", rfl, rfl, SqT.of hb, ai (j := 0) rfl, rfl, _, rfl, aW (fun h => absurd h (by decide +kernel)) (fun _ => ?_)⟩
  refine ⟨_, rfl, b, _, 0, .str "whole", rfl, rfl, SqT.of hb, ai (j := 0) rfl, rfl, _, rfl, aW (fun h => absurd h (by decide +kernel)) (fun _ => ?_)⟩
  exact q H (az.refl H)
 | place c ps =>
  obtain ⟨l, rfl, Rl⟩ := hv
  refine ⟨_, rfl, b, _, 0, .str "place", rfl, rfl, SqT.of hb, ai (j := 0) rfl, rfl, _, rfl, aW (fun h => absurd h (by decide +kernel)) (fun _ => ?_)⟩
  refine ⟨_, rfl, b, _, 0, .str "place", rfl, rfl, SqT.of hb, ai (j := 0) rfl, rfl, _, rfl, aW (fun h => absurd h (by decide +kernel)) (fun _ => ?_)⟩
  exact q H (az.refl H)
 | row c ps j =>
  obtain ⟨l, u, rfl, Rl, Ru⟩ := hv
  have jn : j.size <= n := by have : j.size + 1 <= n + 1 := kn; omega
  obtain ⟨am0, am1⟩ := bZ hn kg.1
  refine ⟨_, rfl, b, _, 0, .str "row", rfl, rfl, SqT.of hb, ai (j := 0) rfl, rfl, _, rfl, aW (fun _ => ?_) (fun h => absurd (by decide +kernel) h)⟩
  refine ⟨_, rfl, b, _, 1, l, rfl, rfl, SqT.of hb, ai (j := 1) rfl, _, rfl, l, d, c, ps, nums, rfl, Rl, kg.1, hn, hd, fun H1 s1 => ?_⟩
  refine ⟨_, rfl, b, _, 2, u, rfl, rfl, SqT.of (s1 _ _ hb), ai (j := 2) rfl, _, rfl, u, d, j, nums, rfl, Ru.mono s1, jn, kg.2, hn, s1 _ _ hd, fun H2 s2 => ⟨_, _, rfl, rfl, .inl ⟨by omega, by omega⟩, _, _, rfl, rfl, q H2 (s1.trans s2)⟩⟩
 | pair i j =>
  obtain ⟨l, u, rfl, Rl, Ru⟩ := hv
  have ks : i.size + j.size + 1 <= n + 1 := kn
  refine ⟨_, rfl, b, _, 0, .str "pair", rfl, rfl, SqT.of hb, ai (j := 0) rfl, rfl, _, rfl, aW (fun h => absurd h (by decide +kernel)) (fun _ => ?_)⟩
  refine ⟨_, rfl, b, _, 0, .str "pair", rfl, rfl, SqT.of hb, ai (j := 0) rfl, rfl, _, rfl, aW (fun _ => ?_) (fun h => absurd (by decide +kernel) h)⟩
  refine ⟨_, rfl, b, _, 1, l, rfl, rfl, SqT.of hb, ai (j := 1) rfl, _, rfl, l, d, i, nums, rfl, Rl, by omega, kg.1, hn, hd, fun H1 s1 => ?_⟩
  exact ⟨_, rfl, b, _, 2, u, rfl, rfl, SqT.of (s1 _ _ hb), ai (j := 2) rfl, _, rfl, u, d, j, nums, rfl, Ru.mono s1, by omega, kg.2, hn, s1 _ _ hd, fun H2 s2 => ⟨_, _, rfl, rfl, q H2 (s1.trans s2)⟩⟩
end
abbrev bd : Stmt := top 1
def pw (g : Str -> Int) : List Pr -> Int
 | [] => 1
 | p :: ps => g p.1 ^ p.2.toNat * pw g ps
def bD : List Pr -> Int
 | [] => 0
 | p :: ps => p.2 + bD ps
def sw (g : List Pr -> Int) : List PM -> Int
 | [] => 0
 | p :: ms => p.2 * g p.1 + sw g ms
theorem eM (g : Str -> Int) : ∀ ps qs, pw g (ps ++ qs) = pw g ps * pw g qs
 | [], qs => by show pw g qs = 1 * pw g qs; rw [Int.one_mul]
 | p :: ps, qs => by show g p.1 ^ p.2.toNat * pw g (ps ++ qs) = g p.1 ^ p.2.toNat * pw g ps * pw g qs; rw [eM g ps qs, Int.mul_assoc]
theorem sg (g : Str -> Int) {ps qs : List Pr} (h : ps.Perm qs) : pw g ps = pw g qs := by
 induction h with
 | nil => rfl
 | cons x _ ih => show _ * _ = _ * _; rw [ih]
 | swap x y l => show _ * (_ * _) = _ * (_ * _); rw [<- Int.mul_assoc, <- Int.mul_assoc, Int.mul_comm (g y.1 ^ _)]
 | trans _ _ h1 h2 => rw [h1, h2]
theorem cm : ∀ ps qs, bD (ps ++ qs) = bD ps + bD qs
 | [], qs => by show bD qs = 0 + bD qs; omega
 | p :: ps, qs => by show p.2 + bD (ps ++ qs) = p.2 + bD ps + bD qs; rw [cm ps qs]; omega
theorem pA {ps qs : List Pr} (h : ps.Perm qs) : bD ps = bD qs := by
 induction h with
 | nil => rfl
 | cons x _ ih => show x.2 + _ = x.2 + _; rw [ih]
 | swap x y l => show y.2 + (x.2 + bD l) = x.2 + (y.2 + bD l); omega
 | trans _ _ h1 h2 => rw [h1, h2]
theorem de (g : List Pr -> Int) : ∀ ms ns, sw g (ms ++ ns) = sw g ms + sw g ns
 | [], ns => by show sw g ns = 0 + sw g ns; omega
 | p :: ms, ns => by show p.2 * g p.1 + sw g (ms ++ ns) = p.2 * g p.1 + sw g ms + sw g ns; rw [de g ms ns]; omega
theorem ni (g : List Pr -> Int) {ms ns : List PM} (h : ms.Perm ns) : sw g ms = sw g ns := by
 induction h with
 | nil => rfl
 | cons x _ ih => show x.2 * g x.1 + _ = x.2 * g x.1 + _; rw [ih]
 | swap x y l => show y.2 * g y.1 + (x.2 * g x.1 + sw g l) = x.2 * g x.1 + (y.2 * g y.1 + sw g l); omega
 | trans _ _ h1 h2 => rw [h1, h2]
theorem dH {p : Pr} {kvs : List Pr} {x : Str} {n : Int} (e : p.1 ≠ x) : ci (p :: kvs) x n = p :: ci kvs x n := by
 unfold ci
 rw [List.any_cons, decide_eq_false e, Bool.false_or]
 split
 ·rw [List.map_cons, if_neg e]
 ·rfl
theorem gH {p : Pr} {kvs : List Pr} {n : Int} (h : p.1 ∉ kvs.map (·.1)) : ci (p :: kvs) p.1 n = (p.1, n) :: kvs := by
 unfold ci
 rw [List.any_cons, decide_eq_true rfl, Bool.true_or, if_pos rfl, List.map_cons, if_pos rfl]
 congr 1
 refine (List.map_congr_left (g := id) fun q hq => ?_).trans (List.map_id _)
 exact if_neg fun e => h (by rw [<- e]; exact List.mem_map_of_mem (f := fun q : Pr => q.1) hq)
theorem lM (g : Str -> Int) {x : Str} {n : Int} (h0 : 0 <= n) : ∀ {kvs : List Pr}, (kvs.map (·.1)).Nodup -> (∀ p ∈ kvs, 0 <= p.2) -> pw g (ci kvs x (tm kvs x + n)) = pw g kvs * g x ^ n.toNat /\ bD (ci kvs x (tm kvs x + n)) = bD kvs + n
 | [], _, _ => by
  show pw g [(x, 0 + n)] = 1 * _ /\ bD [(x, 0 + n)] = 0 + n
  rw [Int.zero_add]
  exact ⟨by show g x ^ n.toNat * 1 = _; rw [Int.mul_one, Int.one_mul], by show n + 0 = n; omega⟩
 | p :: kvs, nd, h => by
  have hp := h p List.mem_cons_self
  have hk := fun q hq => h q (List.mem_cons_of_mem _ hq)
  rw [List.map_cons, List.nodup_cons] at nd
  by_cases e : p.1 = x
  ·subst e
   have t1 : tm (p :: kvs) p.1 = p.2 := if_pos rfl
   rw [t1, gH nd.1]
   refine ⟨?_, by show p.2 + n + bD kvs = p.2 + bD kvs + n; omega⟩
   show g p.1 ^ (p.2 + n).toNat * pw g kvs = g p.1 ^ p.2.toNat * pw g kvs * g p.1 ^ n.toNat
   rw [Int.toNat_add hp h0, Int.pow_add, Int.mul_assoc, Int.mul_assoc, Int.mul_comm (g p.1 ^ n.toNat)]
  ·have t1 : tm (p :: kvs) x = tm kvs x := if_neg e
   obtain ⟨h1, h2⟩ := lM g h0 (x := x) nd.2 hk
   rw [t1, dH e]
   refine ⟨?_, by show p.2 + bD (ci kvs x (tm kvs x + n)) = p.2 + bD kvs + n; rw [h2]; omega⟩
   show _ * pw g (ci kvs x (tm kvs x + n)) = _ * _ * _
   rw [h1, Int.mul_assoc]
theorem nG {p : PM} {m : List PM} {k : List Pr} (e : p.1 ≠ k) : dM (p :: m) k = dM m k := by unfold dM; rw [List.find?_cons, decide_eq_false e]
theorem nJ {p : PM} {m : List PM} : dM (p :: m) p.1 = some p.2 := by unfold dM; rw [List.find?_cons, decide_eq_true rfl]; rfl
theorem rT {p : PM} {m : List PM} {k : List Pr} {n : Int} (e : p.1 ≠ k) : dQ (p :: m) k n = p :: dQ m k n := by
 unfold dQ
 rw [nG e]
 split
 ·rw [List.map_cons, if_neg e]
 ·rfl
theorem sI {p : PM} {m : List PM} {n : Int} (h : p.1 ∉ m.map (·.1)) : dQ (p :: m) p.1 n = (p.1, n) :: m := by
 unfold dQ
 rw [nJ, if_pos (show (some p.2).isSome = true from rfl), List.map_cons, if_pos rfl]
 congr 1
 refine (List.map_congr_left (g := id) fun q hq => ?_).trans (List.map_id _)
 exact if_neg fun e => h (by rw [<- e]; exact List.mem_map_of_mem (f := fun q : PM => q.1) hq)
theorem mh (g : List Pr -> Int) {k : List Pr} {n : Int} : ∀ {m : List PM}, (m.map (·.1)).Nodup -> sw g (dQ m k ((dM m k).getD 0 + n)) = sw g m + n * g k
 | [], _ => by
  show (0 + n) * g k + 0 = 0 + n * g k
  rw [Int.zero_add]; omega
 | p :: m, nd => by
  rw [List.map_cons, List.nodup_cons] at nd
  by_cases e : p.1 = k
  ·subst e
   rw [nJ, sI nd.1]
   show (p.2 + n) * g p.1 + sw g m = p.2 * g p.1 + sw g m + n * g p.1
   rw [Int.add_mul]; omega
  ·have h1 := mh g (k := k) (n := n) nd.2
   rw [nG e, rT e]
   show p.2 * g p.1 + sw g (dQ m k _) = p.2 * g p.1 + sw g m + n * g k
   rw [h1]; omega
theorem kT {R : PM -> Prop} {m : List PM} {k : List Pr} {n : Int} (h : ∀ p ∈ m, R p) (hk : R (k, n)) : ∀ p ∈ dQ m k n, R p := by
 unfold dQ
 split
 ·intro p hp
  obtain ⟨q, hq, rfl⟩ := List.mem_map.mp hp
  split
  ·next e => rw [e]; exact hk
  ·exact h q hq
 ·intro p hp
  rcases List.mem_append.mp hp with hp | hp
  ·exact h p hp
  ·rw [List.mem_singleton.mp hp]; exact hk
theorem kL {m : List PM} (h : ∀ p ∈ m, 0 <= p.2) (k : List Pr) : 0 <= (dM m k).getD 0 := by
 unfold dM
 cases e : m.find? fun p => decide (p.1 = k) with
 | none => exact Int.le_refl 0
 | some p => exact h p (List.mem_of_find?_eq_some e)
abbrev cJ : Stmt := top 28
def n3 (x y z : Int) : List Pr := [("a", x), ("k", y), ("zz", z)]
theorem tm3 (x y z : Int) (s : Str) : tm (n3 x y z) s = if (("a" : Str) = s) then x else if (("k" : Str) = s) then y else if (("zz" : Str) = s) then z else 0 := rfl
theorem nak : ("a" : Str) ≠ "k" := by decide +kernel
theorem naz : ("a" : Str) ≠ "zz" := by decide +kernel
theorem nkz : ("k" : Str) ≠ "zz" := by decide +kernel
theorem nb3 {x y z : Int} (hx : 0 <= x /\ x <= 60) (hy : 0 <= y /\ y <= 60) (hz : 0 <= z /\ z <= 60) : NB (n3 x y z) where
 lo := fun s => by
  rw [tm3]
  split
  ·exact hx.1
  ·split
   ·exact hy.1
   ·split
    ·exact hz.1
    ·exact Int.le_refl 0
 hi := fun s => by
  rw [tm3]
  split
  ·exact hx.2
  ·split
   ·exact hy.2
   ·split
    ·exact hz.2
    ·decide
 has := fun s hs => by
  rcases hs with rfl | rfl | rfl
  ·rw [tm3, if_pos rfl]; exact bJ rfl
  ·rw [tm3, if_neg nak, if_pos rfl]
   exact (bE (by intro e; cases e)).trans (bJ rfl)
  ·rw [tm3, if_neg naz, if_neg nkz, if_pos rfl]
   exact (bE (by intro e; cases e)).trans ((bE (by intro e; cases e)).trans (bJ rfl))
 can := by
  show [("a" : Str), "k", "zz"].Nodup
  decide +kernel
theorem tH (x y z n : Int) : ci (n3 x y z) "a" n = n3 n y z := gH (p := ("a", x)) (by show ¬ ("a" : Str) ∈ [("k" : Str), "zz"]; decide +kernel)
theorem tf (x y z n : Int) : ci (n3 x y z) "k" n = n3 x n z := (dH (p := ("a", x)) nak).trans (congrArg _ (gH (p := ("k", y)) (by show ¬ ("k" : Str) ∈ [("zz" : Str)]; decide +kernel)))
theorem tK (x y z n : Int) : ci (n3 x y z) "zz" n = n3 x y n := (dH (p := ("a", x)) naz).trans (congrArg _ ((dH (p := ("k", y)) nkz).trans (congrArg _ (gH (p := ("zz", z)) (by show ¬ ("zz" : Str) ∈ ([] : List Str); decide +kernel)))))
theorem qI (x y z : Int) : gd [] [(Sum.inr "a", V.int x), (Sum.inr "k", .int y), (Sum.inr "zz", .int z)] = dk (n3 x y z) := by
 show cx (cx (cx ([] : List (Key × V)) (Sum.inr ("a" : Str)) (V.int x)) (Sum.inr ("k" : Str)) (.int y)) (Sum.inr ("zz" : Str)) (.int z) = _
 have e0 : cx ([] : List (Key × V)) (Sum.inr "a") (V.int x) = dk [("a", x)] := rfl
 rw [e0, <- ff, <- ff]
 have e1 : ci [(("a", x) : Pr)] "k" y = [(("a", x) : Pr), ("k", y)] := dH (p := ("a", x)) (kvs := []) nak
 have e2 : ci [(("a", x) : Pr), ("k", y)] "zz" z = n3 x y z := (dH (p := ("a", x)) naz).trans (congrArg _ (dH (p := ("k", y)) (kvs := []) nkz))
 rw [e1, e2]
def hv (i : Nat) (x y z : Int) : List Pr := n3 (if 0 < i then x / 2 else x) (if 1 < i then y / 2 else y) (if 2 < i then z / 2 else z)
def ga : Sp := fun vs H Q _ => ∃ (n : Int) (v : V) (k : Kd), vs = [.int n, v] /\ 0 <= n /\ n < 92160 /\ Rep H k.dv v /\ k.size <= 12 /\ el k /\ ∀ (H' : Hp) (d : Addr) (nums : List Pr), az H H' -> H d = none -> H' d = some (.dK (dk nums)) -> NB nums -> Q (.ref d) H'
section
variable {P : Program} {w : World} {K : PySem.W.Frag} {mg : Str -> Option Value} {base : Heap}
theorem gJ : aP ["_law_cell", "_law_kind_here", "_law_numbers_here", "_law_name"] ["_law_cell", "_law_kind_here"] (aj cJ) := ⟨rfl, rfl, rfl, by decide +kernel, rfl, by decide +kernel, by decide +kernel⟩
theorem mi {f : Addr} {fd : FuncData} {k0 : Nat} (F : Fun K "_law_numbers" "_law_numbers" cJ f fd) (T : Txt K mg) (D_law_rows : Def P w K mg base k0 "_law_rows" ["_law_kind_here", "_law_numbers_here"] (eQ rws 12)) : bg P w K mg base CX0 (k0 + 1) f fd ["_law_cell", "_law_kind_here"] ga := by
 have nd : (["_law_cell", "_law_kind_here", "_law_numbers_here", "_law_name"] : List Str).Nodup := gJ.nd
 refine F.ok gJ (fun vs H Q E h => ?_) (fun cdv A outer s H vs Q E hr h => ?_)
 ·obtain ⟨n, v, k, rfl, _⟩ := h
  rfl
 obtain ⟨n, v, k, rfl, n0, n1, R, k12, kg, q⟩ := h
 have hu := iU hr
 refine ⟨_, (@ag _ _ _ _ _ (@aB _ _ (2) _ _ _ _ nd rfl (Or.inl rfl) (@nP _ _ _ _ _ (@dc _ _ _ _ _ _ _ _ _ (@aM _ _ _ _) (@aq _ _ _ _ _ _ _ _ bm (@pv _ 0 _ _ (by rfl) (by trivial) (by decide) (by decide)) (@ae _ _ _ _)) (@dc _ _ _ _ _ _ _ _ _ (@aM _ _ _ _) (@aq _ _ _ _ _ _ _ _ bm (@aq _ _ _ _ _ _ _ _ br (@pv _ 0 _ _ (by rfl) (by trivial) (by decide) (by decide)) (@ae _ _ _ _)) (@ae _ _ _ _)) (@dc _ _ _ _ _ _ _ _ _ (@aM _ _ _ _) (@aq _ _ _ _ _ _ _ _ bm (@aq _ _ _ _ _ _ _ _ br (@pv _ 0 _ _ (by rfl) (by trivial) (by decide) (by decide)) (@ae _ _ _ _)) (@ae _ _ _ _)) (@nM _ _)))) rfl rfl (by simp) (Nat.le_of_ble_eq_true rfl)) (by rfl) (by trivial)) (@ag _ _ _ _ _ (@bv _ _ _ _ _ _ _ _ (@aI _ _ _ _ _ _ _ _ bM (@aq _ _ _ _ _ _ _ _ bm (@aq _ _ _ _ _ _ _ _ br (@pv _ 0 _ _ (by rfl) (by trivial) (by decide) (by decide)) (@ae _ _ _ _)) (@ae _ _ _ _)) (@ae _ _ _ _) (aQ _)) (@ag _ _ _ _ _ (@aB _ _ (2) _ _ _ _ nd rfl (Or.inl rfl) (@nP _ _ _ _ _ (@dc _ _ _ _ _ _ _ _ _ (@aM _ _ _ _) (@ae _ _ _ _) (@dc _ _ _ _ _ _ _ _ _ (@aM _ _ _ _) (@ae _ _ _ _) (@dc _ _ _ _ _ _ _ _ _ (@aM _ _ _ _) (@ae _ _ _ _) (@nM _ _)))) rfl rfl (by simp) (Nat.le_of_ble_eq_true rfl)) (by rfl) (by trivial)) (@ao _ _ _ (@jJ _ _ _ _ _ _ _ _ _ hu (@pv _ 2 _ _ (by rfl) (by trivial) (by decide) (by decide)) (@aG _ _ _ _ _ _ _ cP (@cL _ _ _ _ (@aa _ _ _ _ _ (@aM _ _ _ _) (@aa _ _ _ _ _ (@aM _ _ _ _) (@aa _ _ _ _ _ (@aM _ _ _ _) (@af _) (by rfl)) (by rfl)) (by rfl))) (@aq _ _ _ _ _ _ _ _ bm (@aq _ _ _ _ _ _ _ _ br (@pv _ 0 _ _ (by rfl) (by trivial) (by decide) (by decide)) (@ae _ _ _ _)) (@ae _ _ _ _)) (fun _ _ => rfl)) (@aq _ _ _ _ _ _ _ _ bo (@aq _ _ _ _ _ _ _ _ bm (@aq _ _ _ _ _ _ _ _ br (@pv _ 0 _ _ (by rfl) (by trivial) (by decide) (by decide)) (@ae _ _ _ _)) (@ae _ _ _ _)) (@ae _ _ _ _)) rfl))) (@aS _)) (@ag _ _ _ _ _ (@io _ _ _ _ _ _ PassesOwn.never (@aI _ _ _ _ _ _ _ _ ia (@av _ _ _ _ _ _ _ _ _ _ D_law_rows hr rfl (@aa _ _ _ _ _ (@pv _ 1 _ _ (by rfl) (by trivial) (by decide) (by decide)) (@aa _ _ _ _ _ (@pv _ 2 _ _ (by rfl) (by trivial) (by decide) (by decide)) (@af _) (by rfl)) (by rfl)) (by decide) (by rfl) (by rfl)) (@ae _ _ _ _) (aQ _)) (@ag _ _ _ _ _ (@cZ _ _ _ _ _ _ _ _ PassesOwn.never rfl (@fC _ _ _ _ (@bp _ _ _ _ _ _ _ _ _ (mf rfl) rfl T.list (by decide +kernel) (@aa _ _ _ _ _ (@pv _ 2 _ _ (by rfl) (by trivial) (by decide) (by decide)) (@af _) (by rfl)) (by decide) (by decide) (by rfl) (by rfl))) (@aL _ _ (3) _ nd rfl (Or.inl rfl) (by trivial)) (@ao _ _ _ (@jJ _ _ _ _ _ _ _ _ _ hu (@pv _ 2 _ _ (by rfl) (by trivial) (by decide) (by decide)) (@pv _ 3 _ _ (by rfl) (by trivial) (by decide) (by decide)) (@aq _ _ _ _ _ _ _ _ br (@nU _ _ _ _ _ _ hu (@pv _ 2 _ _ (by rfl) (by trivial) (by decide) (by decide)) (@pv _ 3 _ _ (by rfl) (by trivial) (by decide) (by decide)) (fun _ _ => rfl)) (@ae _ _ _ _)) rfl)) (by intro _; rfl)) (@ao _ _ _ (@bv _ _ _ _ _ _ _ _ (@aI _ _ _ _ _ _ _ _ bM (@aT _ _ _ _ _ _ _ _ _ (oI rfl) rfl T.max (by decide +kernel) (@aa _ _ _ _ _ (@jE _ _ _ _ _ _ _ _ _ PySem.F.plainAttrs_dict PySem.F.slot_dict_values PySem.F.type_dict_values oM (@pv _ 2 _ _ (by rfl) (by trivial) (by decide) (by decide)) (by rfl) (by rfl)) (@af _) (by rfl)) (by decide) (by decide) (by rfl) (by rfl)) (@ae _ _ _ _) (aQ _)) (@ao _ _ _ (@aD _ _ _ _ (@pv _ 2 _ _ (by rfl) (by trivial) (by decide) (by decide)))) (@aS _))))) (@ao _ _ _ (@aD _ _ _ _ (@pv _ 2 _ _ (by rfl) (by trivial) (by decide) (by decide))))))), ?_⟩
 intro d hd
 refine ⟨_, rfl, _, _, rfl, rfl, mp (by decide), ?_⟩
 refine ⟨_, rfl, _, _, rfl, rfl, ⟨by decide, by decide⟩, _, _, rfl, rfl, mp (by decide), ?_⟩
 refine ⟨_, rfl, _, _, rfl, rfl, ⟨by decide, by decide⟩, _, _, rfl, rfl, mp (by decide), ?_⟩
 have a1 := md n 4 (by decide)
 have a2 := md (n / 4) 4 (by decide)
 have a3 := md (n / 16) 4 (by decide)
 refine ⟨ad, [(Sum.inr "a", .int (n % 4)), (Sum.inr "k", .int (n / 4 % 4)), (Sum.inr "zz", .int (n / 16 % 4))], rfl, Nat.le_of_ble_eq_true rfl, ?_⟩
 rw [qI, jq]
 refine gnm ?_
 dsimp only
 have q0 := ah hd (.dK (dk (n3 (n % 4) (n / 4 % 4) (n / 16 % 4))))
 refine fk (fun σ H' => ∃ (d : Addr) (x y z : Int), σ = [some (.int n), some v, some (.ref d), none] /\ az H H' /\ H d = none /\ H' d = some (.dK (dk (n3 x y z))) /\ (0 <= x /\ x <= 60) /\ (0 <= y /\ y <= 60) /\ (0 <= z /\ z <= 60)) ?_ (fun N hN => ?_)
 ·rintro σ H1 ⟨d, x, y, z, rfl, s1, hd, d1, bx, bY, bz⟩
  refine ki (fun m σ H' => ∃ (x y z : Int) (o3 : Option V), σ = [some (.int n), some v, some (.ref d), o3] /\ az H H' /\ H' d = some (.dK (dk (n3 x y z))) /\ (0 <= x /\ x <= 60) /\ (0 <= y /\ y <= 60) /\ (0 <= z /\ z <= 60) /\ m = (x + y + z).toNat) (x + y + z).toNat ⟨x, y, z, _, rfl, s1, d1, bx, bY, bz, rfl⟩ ?_ ?_
  ·rintro m σ H2 ⟨x, y, z, o3, rfl, s2, d2, bx, bY, bz, rfl⟩
   refine ⟨_, rfl, _, rfl, v, d, k, n3 x y z, rfl, R.mono s2, k12, kg, nb3 bx bY bz, d2, fun H3 s3 => ⟨_, _, rfl, rfl, _, rfl, aW (fun h => ?_) (fun h => ?_)⟩⟩
   ·have d3 := s3 _ _ d2
    refine ⟨_, rfl, d, _, rfl, d3, fun l hl => ⟨l, rfl, ⟨_, SqL.of ad⟩, gS (xs := [V.str "a", .str "k", .str "zz"]) (fun i σ H' => ∃ (o3 : Option V), σ = [some (.int n), some v, some (.ref d), o3] /\ az H H' /\ H' l = some (.lst [V.str "a", .str "k", .str "zz"]) /\ H' d = some (.dK (dk (hv i x y z)))) ⟨_, rfl, s2.trans (s3.trans (ah hl _)), ad, ah hl _ _ _ d3⟩ (fun i σ H' _ ⟨_, _, _, h, _⟩ => SqL.of h) ?_ ?_⟩⟩
    ·rintro i u σ H4 hu' ⟨o3, rfl, s4, l4, d4⟩
     have ld : l ≠ d := fun e => by rw [e, d4] at l4; cases l4
     have sz : (dk (hv i x y z)).length < sizeLine := by rw [sizeLine_eq]; show 3 < _; decide
     have i3 : i < 3 := (List.getElem?_eq_some_iff.mp hu').1
     have i3' : i = 0 \/ i = 1 \/ i = 2 := by omega
     rcases i3' with rfl | rfl | rfl
     ·cases hu'
      have e1 : df (dk (hv 0 x y z)) (Sum.inr "a") = some (.int x) := bJ rfl
      have e2 : ci (hv 0 x y z) "a" (x / 2) = hv (0 + 1) x y z := tH _ _ _ _
      refine ⟨_, rfl, _, rfl, d, _, rfl, e1 ▸ fA.k (k := Sum.inr "a") d4, _, _, rfl, rfl, ⟨by decide, by decide⟩, _, rfl, _, rfl, d, _, rfl, gZ.k (k := Sum.inr "a") d4 sz, _, rfl, fun e o he => ?_, ?_, ?_⟩
      ·rw [au (ap he hd)]; exact s4 _ _ he
      ·rw [au ld]; exact l4
      ·rw [ad]
       show some (HO.dK (cx (dk (hv 0 x y z)) (Sum.inr "a") (.int (x / 2)))) = _
       rw [<- ff, e2]
     ·cases hu'
      have e1 : df (dk (hv 1 x y z)) (Sum.inr "k") = some (.int y) := (bE (by intro e; cases e)).trans (bJ rfl)
      have e2 : ci (hv 1 x y z) "k" (y / 2) = hv (1 + 1) x y z := tf _ _ _ _
      refine ⟨_, rfl, _, rfl, d, _, rfl, e1 ▸ fA.k (k := Sum.inr "k") d4, _, _, rfl, rfl, ⟨by decide, by decide⟩, _, rfl, _, rfl, d, _, rfl, gZ.k (k := Sum.inr "k") d4 sz, _, rfl, fun e o he => ?_, ?_, ?_⟩
      ·rw [au (ap he hd)]; exact s4 _ _ he
      ·rw [au ld]; exact l4
      ·rw [ad]
       show some (HO.dK (cx (dk (hv 1 x y z)) (Sum.inr "k") (.int (y / 2)))) = _
       rw [<- ff, e2]
     ·cases hu'
      have e1 : df (dk (hv 2 x y z)) (Sum.inr "zz") = some (.int z) := (bE (by intro e; cases e)).trans ((bE (by intro e; cases e)).trans (bJ rfl))
      have e2 : ci (hv 2 x y z) "zz" (z / 2) = hv (2 + 1) x y z := tK _ _ _ _
      refine ⟨_, rfl, _, rfl, d, _, rfl, e1 ▸ fA.k (k := Sum.inr "zz") d4, _, _, rfl, rfl, ⟨by decide, by decide⟩, _, rfl, _, rfl, d, _, rfl, gZ.k (k := Sum.inr "zz") d4 sz, _, rfl, fun e o he => ?_, ?_, ?_⟩
      ·rw [au (ap he hd)]; exact s4 _ _ he
      ·rw [au ld]; exact l4
      ·rw [ad]
       show some (HO.dK (cx (dk (hv 2 x y z)) (Sum.inr "zz") (.int (z / 2)))) = _
       rw [<- ff, e2]
    ·rintro σ H4 ⟨o3, rfl, s4, l4, d4⟩
     have d4 : H4 d = some (.dK (dk (n3 (x / 2) (y / 2) (z / 2)))) := d4
     refine ⟨_, rfl, .inr (.inr (.inl ⟨rfl, .inl ⟨_, d4⟩⟩)), d, _, rfl, rfl, d4, fun vw hvw => ?_⟩
     have s5 := ah hvw (kR vw d)
     refine ⟨vw, d, n3 (x / 2) (y / 2) (z / 2), rfl, ad, s5 _ _ d4, by simp [n3], fun mx h1 h2 => ⟨rfl, _, rfl, aW (fun h => ?_) (fun h => ?_)⟩⟩
     ·exact ⟨_, rfl, q _ d _ (s4.trans s5) hd (s5 _ _ d4) (nb3 ⟨by omega, by omega⟩ ⟨by omega, by omega⟩ ⟨by omega, by omega⟩)⟩
     ·have m0 : mx ≠ 0 := fun e => h (decide_eq_true (by rw [e]))
      obtain ⟨p, hp, e⟩ := h2
      have lt : x / 2 + y / 2 + z / 2 < x + y + z := by
       simp only [n3, List.mem_cons, List.not_mem_nil, or_false] at hp
       rcases hp with rfl | rfl | rfl
       ·have : x / 2 = mx := e; omega
       ·have : y / 2 = mx := e; omega
       ·have : z / 2 = mx := e; omega
      exact tnx ⟨_, (by omega : (x / 2 + y / 2 + z / 2).toNat < (x + y + z).toNat), x / 2, y / 2, z / 2, _, rfl, s4.trans s5, s5 _ _ d4, ⟨by omega, by omega⟩, ⟨by omega, by omega⟩, ⟨by omega, by omega⟩, rfl⟩
   ·exact ⟨_, rfl, q H3 d _ (s2.trans s3) hd (s3 _ _ d2) (nb3 bx bY bz)⟩
  ·rintro σ H2 Q1 Q2 hq ⟨x1, e1, x2, e2, vv, dd, kk, nn, e3, r1, r2, r3, r4, r5, h⟩
   refine ⟨x1, e1, x2, e2, vv, dd, kk, nn, e3, r1, r2, r3, r4, r5, fun H3 s3 => ?_⟩
   obtain ⟨i1, i2, f1, f2, b, f3, h'⟩ := h H3 s3
   exact ⟨i1, i2, f1, f2, b, f3, hq _ _ h'⟩
 ·refine ⟨_, rfl, _, _, rfl, rfl, ⟨by decide, by decide⟩, _, _, rfl, rfl, mp (by decide), rfl, _, rfl, aW (fun h => ?_) (fun h => tnx (hN _ _ ⟨d, _, _, _, rfl, q0, hd, ad, ⟨a1.1, by omega⟩, ⟨a2.1, by omega⟩, ⟨a3.1, by omega⟩⟩))⟩
  intro d' hd'
  refine ⟨ad, [(Sum.inr "a", .int 0), (Sum.inr "k", .int 0), (Sum.inr "zz", .int 0)], rfl, Nat.le_of_ble_eq_true rfl, ?_⟩
  rw [qI, jq]
  have q1 := ah hd' (.dK (dk (n3 0 0 0)))
  have a4 := md (n / 1536) 60 (by decide)
  have a5 := md (n / 512) 3 (by decide)
  have hd0 : H d' = none := q0.free hd'
  refine ⟨_, rfl, _, _, rfl, rfl, ⟨by decide, by decide⟩, _, _, rfl, rfl, mp (by decide), _, _, rfl, rfl, ?_⟩
  refine ⟨_, rfl, z3, fun L hL => ⟨_, rfl, _, _, rfl, rfl, ⟨by decide, by decide⟩, _, _, rfl, rfl, mp (by decide), ?_⟩⟩
  have q2 := ah hL (.lst [V.str "a", .str "k", .str "zz"])
  have sz : (dk (n3 0 0 0)).length < sizeLine := by rw [sizeLine_eq]; show 3 < _; decide
  have fin : ∀ (y : Str) (nums : List Pr), ci (n3 0 0 0) y (n / 1536 % 60 + 1) = nums -> ∀ x' y' z', nums = n3 x' y' z' -> (0 <= x' /\ x' <= 60) /\ (0 <= y' /\ y' <= 60) /\ (0 <= z' /\ z' <= 60) -> N [some (.int n), some v, some (.ref d'), none] (upd (upd (upd (upd H d (.dK (dk (n3 (n % 4) (n / 4 % 4) (n / 16 % 4))))) d' (.dK (dk (n3 0 0 0)))) L (.lst [V.str "a", .str "k", .str "zz"])) d' (.dK (cx (dk (n3 0 0 0)) (Sum.inr y) (.int (n / 1536 % 60 + 1))))) := fun y nums e x' y' z' e2 hb => by
   refine hN _ _ ⟨d', x', y', z', rfl, fun g o he => ?_, hd0, ?_, hb⟩
   ·rw [au (ap he hd0)]; exact q2 _ _ (q1 _ _ (q0 _ _ he))
   ·rw [ad, <- ff, e, e2]
  have c3 : n / 512 % 3 = 0 \/ n / 512 % 3 = 1 \/ n / 512 % 3 = 2 := by omega
  have b0 : (0 : Int) <= 0 /\ (0 : Int) <= 60 := by decide
  have b1 : 0 <= n / 1536 % 60 + 1 /\ n / 1536 % 60 + 1 <= 60 := by omega
  rcases c3 with c | c | c
  ·exact ⟨L, _, _, .str "a", rfl, rfl, SqL.of ad, (by rw [c]; exact ai (j := 0) rfl), d', _, rfl, gZ.k (k := Sum.inr "a") (q2 _ _ ad) sz, fin "a" _ (tH _ _ _ _) _ _ _ rfl ⟨b1, b0, b0⟩⟩
  ·exact ⟨L, _, _, .str "k", rfl, rfl, SqL.of ad, (by rw [c]; exact ai (j := 1) rfl), d', _, rfl, gZ.k (k := Sum.inr "k") (q2 _ _ ad) sz, fin "k" _ (tf _ _ _ _) _ _ _ rfl ⟨b0, b1, b0⟩⟩
  ·exact ⟨L, _, _, .str "zz", rfl, rfl, SqL.of ad, (by rw [c]; exact ai (j := 2) rfl), d', _, rfl, gZ.k (k := Sum.inr "zz") (q2 _ _ ad) sz, fin "zz" _ (tK _ _ _ _) _ _ _ rfl ⟨b0, b0, b1⟩⟩
end
def qy (K : PySem.W.Frag) : Sp := fun vs H Q _ => ∃ (a : Addr) (ps : List Pr), vs = [.ref a] /\ cF K H ps a /\ (∀ p ∈ ps, 0 <= p.2) /\ ps.length <= 60 /\
 ∀ (H' : Hp) (b : Addr) (qs : List Pr), az H H' -> cF K H' qs b -> (∀ p ∈ qs, 0 <= p.2) -> (∀ g, pw g qs = pw g ps) -> bD qs = bD ps -> qs.length <= ps.length -> Q (.ref b) H'
def nY (K : PySem.W.Frag) (sq : Hp -> Addr -> List V -> Prop) : Sp := fun vs H Q _ => ∃ (a : Addr) (us : List V) (m : List PM), vs = [.ref a] /\ sq H a us /\ Paired (TmR K H) m us /\ (∀ p ∈ m, 0 <= p.2) /\ m.length <= 80000 /\
 ∀ (H' : Hp) (v : V) (m' : List PM), az H H' -> SmR K H' m' v -> (∀ p ∈ m', 0 <= p.2 /\ ∃ q ∈ m, q.1 = p.1) -> (∀ g, sw g m' = sw g m) -> m'.length <= m.length -> Q v H'
def isL (H : Hp) (a : Addr) (us : List V) : Prop := H a = some (.lst us)
theorem cg {α β : Type} {R : α -> β -> Prop} : ∀ {xs : List α} {ys : List β}, Paired R xs ys -> ∀ {i : Nat} {y : β}, ys[i]? = some y -> ∃ x, xs[i]? = some x /\ R x y
 | _, _, .nil, i, y, h => by simp at h
 | _, _, .cons r t, 0, y, h => by cases h; exact ⟨_, rfl, r⟩
 | _, _, .cons r t, i + 1, y, h => cg t h
theorem bn {α β : Type} {R : α -> β -> Prop} : ∀ {xs : List α} {ys : List β}, Paired R xs ys -> xs.length = ys.length
 | _, _, .nil => rfl
 | _, _, .cons _ t => by rw [List.length_cons, List.length_cons, bn t]
theorem gC (g : List Pr -> Int) {m : List PM} {i : Nat} {p : PM} (h : m[i]? = some p) : sw g (m.take (i + 1)) = sw g (m.take i) + p.2 * g p.1 := by
 rw [List.take_add_one, h, de]
 show _ + (p.2 * g p.1 + 0) = _
 omega
theorem nt {K : PySem.W.Frag} {P : Program} {w : World} {H H' : Hp} {d : Addr} {m : List PM} (s : az H H') (h : Dp K P w H d m) : Dp K P w H' d m := let ⟨xs, e, a, b, c, r⟩ := h; ⟨xs, s _ _ e, a, b, c, jv (fun _ _ e => s _ _ e) r⟩
section
variable {P : Program} {w : World} {K : PySem.W.Frag} {mg : Str -> Option Value} {base : Heap}
theorem bQ : aP ["parts", "total", "key", "times"] ["parts"] (aj bd) := ⟨rfl, rfl, rfl, by decide +kernel, rfl, by decide +kernel, by decide +kernel⟩
theorem uW {f : Addr} {fd : FuncData} (F : Fun K "gathered" "gathered" bd f fd) (T : Txt K mg) : bg P w K mg base CX0 1 f fd ["parts"] (qy K) := by
 have nd : (["parts", "total", "key", "times"] : List Str).Nodup := bQ.nd
 refine F.ok bQ (fun vs H Q E h => ?_) (fun cdv A outer s H vs Q E hr h => ?_)
 ·obtain ⟨a, ps, rfl, _⟩ := h
  rfl
 obtain ⟨a, ps, rfl, R, hge, h40, q⟩ := h
 have hu := iU hr
 obtain ⟨us, ta, ru⟩ : ∃ us, Tp K H a us /\ Reps H (aJ ps) us := by
  rcases R with R | ⟨rfl, R⟩
  ·obtain ⟨a', us, e, ha, ru⟩ := Rep.tup_inv R
   cases e
   exact ⟨us, .of ha, ru⟩
  ·exact ⟨[], R, by simp only [aJ, List.map_nil, Reps]⟩
 have tm' : ∀ {H'}, az H H' -> SqT K H' a us := fun s => (ta.tups fun _ _ e => s _ _ e).sq
 have lus : us.length = ps.length := by have := ru.length; rwa [aJ, List.length_map] at this
 refine ⟨_, (@ag _ _ _ _ _ (@aB _ _ (1) _ _ _ _ nd rfl (Or.inl rfl) (@qJ _ _) (by rfl) (by trivial)) (@ag _ _ _ _ _ (@cZ _ _ _ _ _ _ _ _ PassesOwn.never rfl (@dF _ _ _ _ (@pv _ 0 _ _ (by rfl) (by trivial) (by decide) (by decide))) (@cp _ _ _ _ _ _ rfl (@aN _ _ _ _ _ (@aL _ _ (2) _ nd rfl (Or.inl rfl) (by trivial)) (@aN _ _ _ _ _ (@aL _ _ (3) _ nd rfl (Or.inl rfl) (by trivial)) (@bN _) (by rfl)) (by rfl)) (by rfl) (by rfl)) (@ao _ _ _ (@jJ _ _ _ _ _ _ _ _ _ hu (@pv _ 1 _ _ (by rfl) (by trivial) (by decide) (by decide)) (@pv _ 2 _ _ (by rfl) (by trivial) (by decide) (by decide)) (@aq _ _ _ _ _ _ _ _ bo (@gQ _ _ _ _ _ _ _ _ _ hu (@pv _ 1 _ _ (by rfl) (by trivial) (by decide) (by decide)) (@pv _ 2 _ _ (by rfl) (by trivial) (by decide) (by decide)) (@ae _ _ _ _) ⟨rfl, rfl, rfl, rfl⟩) (@pv _ 3 _ _ (by rfl) (by trivial) (by decide) (by decide))) rfl)) (by intro _; rfl)) (@ao _ _ _ (@aD _ _ _ _ (@bp _ _ _ _ _ _ _ _ _ bj rfl T.tuple (by decide +kernel) (@aa _ _ _ _ _ (@aT _ _ _ _ _ _ _ _ _ (jD rfl) rfl T.sorted (by decide +kernel) (@aa _ _ _ _ _ (@jE _ _ _ _ _ _ _ _ _ PySem.F.plainAttrs_dict PySem.F.slot_dict_items PySem.F.type_dict_items qZ (@pv _ 1 _ _ (by rfl) (by trivial) (by decide) (by decide)) (by rfl) (by rfl)) (@af _) (by rfl)) (by decide) (by decide) (by rfl) (by rfl)) (@af _) (by rfl)) (by decide) (by decide) (by rfl) (by rfl)))))), ?_⟩
 intro d hd
 have s0 : az H (upd H d (.dK [])) := ah hd _
 refine ⟨_, rfl, a, rfl, ⟨us, tm' s0⟩, fG (xs := us) (fun i σ H' => ∃ (kvs : List Pr) (o1 o2 : Option V), σ = [some (.ref a), some (.ref d), o1, o2] /\ az H H' /\ H' d = some (.dK (dk kvs)) /\ (kvs.map (·.1)).Nodup /\ kvs.length <= i /\ (∀ p ∈ kvs, 0 <= p.2) /\ (∀ g, pw g kvs = pw g (ps.take i)) /\ bD kvs = bD (ps.take i))
  ⟨[], _, _, rfl, s0, ad, by simp, by simp, by simp, fun g => rfl, rfl⟩ (fun i σ H' _ ⟨_, _, _, _, s1, _⟩ => tm' s1) ?T1 ?_⟩
 case T1 =>
  rintro i x σ H1 hx ⟨kvs, o1, o2, rfl, s1, d1, ndk, hl, hall, ht, hs⟩
  obtain ⟨p, b, hp, rfl, hb⟩ := fH ru hx
  have hi : i < us.length := (List.getElem?_eq_some_iff.mp hx).1
  refine ⟨b, _, rfl, SqT.of (s1 _ _ hb), rfl, _, _, rfl, _, _, rfl, rfl, ?_⟩
  refine ⟨_, rfl, d, rfl, .inl ⟨_, .inl d1⟩, _, rfl, _, fA.k (k := Sum.inr p.1) d1, _, rfl, tm kvs p.1, p.2, nu _ _, rfl, _, rfl, _, rfl, d, _, rfl, gZ.k (k := Sum.inr p.1) d1 ?_, ?_⟩
  ·rw [show (dk kvs).length = kvs.length from List.length_map _, sizeLine_eq]; omega
  have hp1 := hge p (List.mem_of_getElem? hp)
  have h0 := oz (fun r hr' => hall r hr') p.1
  have tk : ps.take (i + 1) = ps.take i ++ [p] := by rw [List.take_add_one, hp]; rfl
  refine ⟨ci kvs p.1 (tm kvs p.1 + p.2), _, _, rfl, fun e o he => ?_, ?_, pB ndk, Nat.le_trans (rq _ _ _) (by omega), qA (R := fun r => 0 <= r.2) hall (by show 0 <= tm kvs p.1 + p.2; omega), fun g => ?_, ?_⟩
  ·rw [au (ap he hd)]
   exact s1 _ _ he
  ·rw [ad, ff]
  ·rw [(lM g hp1 ndk hall).1, ht g, tk, eM]
   show _ = _ * (g p.1 ^ p.2.toNat * 1)
   rw [Int.mul_one]
  ·rw [(lM (fun _ => 0) hp1 ndk hall).2, hs, tk, cm]
   show _ = _ + (p.2 + 0)
   omega
 rintro σ H1 ⟨kvs, o1, o2, rfl, s1, d1, ndk, hl, hall, ht, hs⟩
 refine ⟨_, rfl, .inr (.inr (.inl ⟨rfl, .inl ⟨_, d1⟩⟩)), d, _, rfl, rfl, d1, fun v hv => ?_⟩
 refine ⟨v, d, kvs.map fun p => (p.1, V.int p.2), rfl, ad, ?_, ?_, fun H2 l qs s2 hl' hq hlst pq pw' => ?_⟩
 ·rw [au (ap d1 hv), d1, List.map_map]; rfl
 ·rw [List.length_map]; omega
 refine ⟨l, _, rfl, .inl ⟨SqL.of hlst, fun t ht' => ?_⟩⟩
 have s12 : az H1 H2 := (ah hv _).trans s2
 have s3 : az H2 (upd H2 t (.tup (qs.map fun r => V.ref r.1))) := ah ht' _
 have shape : ∀ r ∈ qs, ∃ p ∈ kvs, r.2 = (p.1, [V.int p.2]) := fun r hr' => by
  have := pq.mem_iff.mp (List.mem_map_of_mem (f := (·.2)) hr')
  rw [List.map_map] at this
  obtain ⟨p, hp, e⟩ := List.mem_map.mp this
  exact ⟨p, hp, e.symm⟩
 have tk : ∀ r ∈ qs, r.2.1 = (tkV r).1 /\ r.2.2 = [V.int (tkV r).2] := fun r hr' => by
  obtain ⟨p, _, e⟩ := shape r hr'
  unfold tkV
  rw [e]
  exact ⟨rfl, rfl⟩
 have perm : (qs.map tkV).Perm kvs := by
  have e1 : qs.map tkV = (qs.map (·.2)).map fun z => (z.1, match z.2 with | [.int n] => n | _ => 0) := by
   rw [List.map_map]; rfl
  have e2 : kvs = ((kvs.map fun p => (p.1, V.int p.2)).map fun p => (p.1, [p.2])).map fun z => (z.1, match z.2 with | [.int n] => n | _ => 0) := by
   rw [List.map_map, List.map_map]
   exact (List.map_id kvs).symm
  rw [e1]
  rw [e2]
  exact pq.map _
 rw [lus, List.take_length] at ht hs
 refine q _ t (qs.map tkV) (s1.trans (s12.trans s3)) (.inl ?_) (fun p hp => hall p (perm.mem_iff.mp hp)) (fun g => by rw [sg g perm, ht g]) (by rw [pA perm, hs]) ?_
 ·simp only [Rep]
  refine ⟨t, _, rfl, ad, iH fun r hr' => ?_⟩
  have := (hq r hr').1
  rw [(tk r hr').1, (tk r hr').2] at this
  exact s3 _ _ this
 ·rw [perm.length_eq]; omega
theorem um {f : Addr} {fd : FuncData} (F : Fun K "gathered" "gathered" bd f fd) (T : Txt K mg) : bg P w K mg base CX0 1 f fd ["parts"] (nY K (Tp K)) := by
 have nd : (["parts", "total", "key", "times"] : List Str).Nodup := bQ.nd
 refine F.ok bQ (fun vs H Q E h => ?_) (fun cdv A outer s H vs Q E hr h => ?_)
 ·obtain ⟨a, us, m, rfl, _⟩ := h
  rfl
 obtain ⟨a, us, m, rfl, ta, R, hge, h40, q⟩ := h
 have hu64 := hr.units
 have hu2 : (A.deeper (PyProof.Rows.envOfC "gathered" (aj bd) s.heap.objs.size f cdv)).units + 2 < cLine := by omega
 have hu10 : (A.deeper (PyProof.Rows.envOfC "gathered" (aj bd) s.heap.objs.size f cdv)).units + 10 < cLine := by omega
 have tm' : ∀ {H'}, az H H' -> SqT K H' a us := fun s => (ta.tups fun _ _ e => s _ _ e).sq
 have lus : us.length = m.length := (bn R).symm
 refine ⟨_, (@ag _ _ _ _ _ (@aB _ _ (1) _ _ _ _ nd rfl (Or.inl rfl) (@kS _ _) (by rfl) (by trivial)) (@ag _ _ _ _ _ (@cZ _ _ _ _ _ _ _ _ PassesOwn.never rfl (@dF _ _ _ _ (@pv _ 0 _ _ (by rfl) (by trivial) (by decide) (by decide))) (@cp _ _ _ _ _ _ rfl (@aN _ _ _ _ _ (@aL _ _ (2) _ nd rfl (Or.inl rfl) (by trivial)) (@aN _ _ _ _ _ (@aL _ _ (3) _ nd rfl (Or.inl rfl) (by trivial)) (@bN _) (by rfl)) (by rfl)) (by rfl) (by rfl)) (@ao _ _ _ (@kH _ _ _ _ _ _ _ _ _ hu2 (@pv _ 1 _ _ (by rfl) (by trivial) (by decide) (by decide)) (@pv _ 2 _ _ (by rfl) (by trivial) (by decide) (by decide)) (@aq _ _ _ _ _ _ _ _ bo (@iP _ _ _ _ _ _ _ _ _ hu2 (@pv _ 1 _ _ (by rfl) (by trivial) (by decide) (by decide)) (@pv _ 2 _ _ (by rfl) (by trivial) (by decide) (by decide)) (@ae _ _ _ _) ⟨rfl, rfl, rfl, rfl⟩) (@pv _ 3 _ _ (by rfl) (by trivial) (by decide) (by decide))) rfl)) (by intro _; rfl)) (@ao _ _ _ (@aD _ _ _ _ (@bp _ _ _ _ _ _ _ _ _ bj rfl T.tuple (by decide +kernel) (@aa _ _ _ _ _ (@aT _ _ _ _ _ _ _ _ _ (ft rfl hu10) rfl T.sorted (by decide +kernel) (@aa _ _ _ _ _ (@ja _ _ _ _ _ (@pv _ 1 _ _ (by rfl) (by trivial) (by decide) (by decide)) (by rfl) (by rfl)) (@af _) (by rfl)) (by decide) (by decide) (by rfl) (by rfl)) (@af _) (by rfl)) (by decide) (by decide) (by rfl) (by rfl)))))), ?_⟩
 intro d H0 hd sd D0
 have s0 : az H H0 := fun e o he => sd e o (ap he hd) he
 refine ⟨_, rfl, a, rfl, ⟨us, tm' s0⟩, fG (xs := us) (fun i σ H' => ∃ (mm : List PM) (o1 o2 : Option V), σ = [some (.ref a), some (.ref d), o1, o2] /\ az H H' /\ Dp K P w H' d mm /\ mm.length <= i /\ (∀ p ∈ mm, 0 <= p.2 /\ ∃ q ∈ m, q.1 = p.1) /\ ∀ g, sw g mm = sw g (m.take i))
  ⟨[], _, _, rfl, s0, D0, by simp, by simp, fun g => rfl⟩ (fun i σ H' _ ⟨_, _, _, _, s1, _⟩ => tm' s1) ?T1 ?_⟩
 case T1 =>
  rintro i x σ H1 hx ⟨mm, o1, o2, rfl, s1, d1, hl, hall, ht⟩
  obtain ⟨p, hp, c, b, rfl, tc, kb⟩ := cg R hx
  have hi : i < us.length := (List.getElem?_eq_some_iff.mp hx).1
  have kb1 := kb.mono s1
  have ndm : (mm.map (·.1)).Nodup := by obtain ⟨_, _, _, _, h, _⟩ := d1; exact h
  refine ⟨c, _, rfl, (tc.tups fun _ _ e => s1 _ _ e).sq, rfl, _, _, rfl, _, _, rfl, rfl, ?_⟩
  refine ⟨_, rfl, d, _, rfl, d1, _, rfl, mm, p.1, b, 0, d1, rfl, kb1, rfl, _, rfl, _, p.2, rfl, rfl, _, rfl, _, rfl, d, mm, p.1, b, _, rfl, d1, rfl, kb1, rfl, by omega, fun H4 s4 D4 => ?_⟩
  have hp1 := hge p (List.mem_of_getElem? hp)
  have h0 := kL (fun r hr' => (hall r hr').1) p.1
  refine ⟨dQ mm p.1 ((dM mm p.1).getD 0 + p.2), _, _, rfl, fun e o he => s4 e o (ap he hd) (s1 e o he), D4, Nat.le_trans gO (by omega), kT (R := fun r => 0 <= r.2 /\ ∃ q ∈ m, q.1 = r.1) hall ⟨by show 0 <= (dM mm p.1).getD 0 + p.2; omega, p, List.mem_of_getElem? hp, rfl⟩, fun g => ?_⟩
  rw [mh g ndm, ht g, gC g hp]
 rintro σ H1 ⟨mm, o1, o2, rfl, s1, d1, hl, hall, ht⟩
 refine ⟨_, rfl, d, mm, rfl, d1, fun v hv => ?_⟩
 have s2 := ah hv (eA v d)
 refine ⟨v, d, mm, rfl, ad, nt s2 d1, fun H3 l ws m' s3 hl' hlst R3 pq pw' => ?_⟩
 refine ⟨l, _, rfl, .inl ⟨SqL.of hlst, fun t ht' => ?_⟩⟩
 have s4 : az H3 (upd H3 t (.tup ws)) := ah ht' _
 rw [lus, List.take_length] at ht
 rw [lus] at hl
 exact q _ (.ref t) m' (s1.trans (s2.trans (s3.trans s4))) ⟨t, ws, rfl, .of ad, cN (fun _ _ e => s4 _ _ e) R3⟩ (fun p hp => hall p (pq.mem_iff.mp hp)) (fun g => by rw [ni g pq, ht g]) (by rw [pq.length_eq]; exact hl)
theorem uP {f : Addr} {fd : FuncData} (F : Fun K "gathered" "gathered" bd f fd) (T : Txt K mg) : bg P w K mg base CX0 1 f fd ["parts"] (nY K isL) := by
 have nd : (["parts", "total", "key", "times"] : List Str).Nodup := bQ.nd
 refine F.ok bQ (fun vs H Q E h => ?_) (fun cdv A outer s H vs Q E hr h => ?_)
 ·obtain ⟨a, us, m, rfl, _⟩ := h
  rfl
 obtain ⟨a, us, m, rfl, ta, R, hge, h40, q⟩ := h
 have hu64 := hr.units
 have hu2 : (A.deeper (PyProof.Rows.envOfC "gathered" (aj bd) s.heap.objs.size f cdv)).units + 2 < cLine := by omega
 have hu10 : (A.deeper (PyProof.Rows.envOfC "gathered" (aj bd) s.heap.objs.size f cdv)).units + 10 < cLine := by omega
 have tm' : ∀ {H'}, az H H' -> SqL K H' a us := fun s => SqL.of (s _ _ ta)
 have lus : us.length = m.length := (bn R).symm
 refine ⟨_, (@ag _ _ _ _ _ (@aB _ _ (1) _ _ _ _ nd rfl (Or.inl rfl) (@kS _ _) (by rfl) (by trivial)) (@ag _ _ _ _ _ (@cZ _ _ _ _ _ _ _ _ PassesOwn.never rfl (@fC _ _ _ _ (@pv _ 0 _ _ (by rfl) (by trivial) (by decide) (by decide))) (@cp _ _ _ _ _ _ rfl (@aN _ _ _ _ _ (@aL _ _ (2) _ nd rfl (Or.inl rfl) (by trivial)) (@aN _ _ _ _ _ (@aL _ _ (3) _ nd rfl (Or.inl rfl) (by trivial)) (@bN _) (by rfl)) (by rfl)) (by rfl) (by rfl)) (@ao _ _ _ (@kH _ _ _ _ _ _ _ _ _ hu2 (@pv _ 1 _ _ (by rfl) (by trivial) (by decide) (by decide)) (@pv _ 2 _ _ (by rfl) (by trivial) (by decide) (by decide)) (@aq _ _ _ _ _ _ _ _ bo (@iP _ _ _ _ _ _ _ _ _ hu2 (@pv _ 1 _ _ (by rfl) (by trivial) (by decide) (by decide)) (@pv _ 2 _ _ (by rfl) (by trivial) (by decide) (by decide)) (@ae _ _ _ _) ⟨rfl, rfl, rfl, rfl⟩) (@pv _ 3 _ _ (by rfl) (by trivial) (by decide) (by decide))) rfl)) (by intro _; rfl)) (@ao _ _ _ (@aD _ _ _ _ (@bp _ _ _ _ _ _ _ _ _ bj rfl T.tuple (by decide +kernel) (@aa _ _ _ _ _ (@aT _ _ _ _ _ _ _ _ _ (ft rfl hu10) rfl T.sorted (by decide +kernel) (@aa _ _ _ _ _ (@ja _ _ _ _ _ (@pv _ 1 _ _ (by rfl) (by trivial) (by decide) (by decide)) (by rfl) (by rfl)) (@af _) (by rfl)) (by decide) (by decide) (by rfl) (by rfl)) (@af _) (by rfl)) (by decide) (by decide) (by rfl) (by rfl)))))), ?_⟩
 intro d H0 hd sd D0
 have s0 : az H H0 := fun e o he => sd e o (ap he hd) he
 refine ⟨_, rfl, a, rfl, ⟨us, tm' s0⟩, gS (xs := us) (fun i σ H' => ∃ (mm : List PM) (o1 o2 : Option V), σ = [some (.ref a), some (.ref d), o1, o2] /\ az H H' /\ Dp K P w H' d mm /\ mm.length <= i /\ (∀ p ∈ mm, 0 <= p.2 /\ ∃ q ∈ m, q.1 = p.1) /\ ∀ g, sw g mm = sw g (m.take i))
  ⟨[], _, _, rfl, s0, D0, by simp, by simp, fun g => rfl⟩ (fun i σ H' _ ⟨_, _, _, _, s1, _⟩ => tm' s1) ?T1 ?_⟩
 case T1 =>
  rintro i x σ H1 hx ⟨mm, o1, o2, rfl, s1, d1, hl, hall, ht⟩
  obtain ⟨p, hp, c, b, rfl, tc, kb⟩ := cg R hx
  have hi : i < us.length := (List.getElem?_eq_some_iff.mp hx).1
  have kb1 := kb.mono s1
  have ndm : (mm.map (·.1)).Nodup := by obtain ⟨_, _, _, _, h, _⟩ := d1; exact h
  refine ⟨c, _, rfl, (tc.tups fun _ _ e => s1 _ _ e).sq, rfl, _, _, rfl, _, _, rfl, rfl, ?_⟩
  refine ⟨_, rfl, d, _, rfl, d1, _, rfl, mm, p.1, b, 0, d1, rfl, kb1, rfl, _, rfl, _, p.2, rfl, rfl, _, rfl, _, rfl, d, mm, p.1, b, _, rfl, d1, rfl, kb1, rfl, by omega, fun H4 s4 D4 => ?_⟩
  have hp1 := hge p (List.mem_of_getElem? hp)
  have h0 := kL (fun r hr' => (hall r hr').1) p.1
  refine ⟨dQ mm p.1 ((dM mm p.1).getD 0 + p.2), _, _, rfl, fun e o he => s4 e o (ap he hd) (s1 e o he), D4, Nat.le_trans gO (by omega), kT (R := fun r => 0 <= r.2 /\ ∃ q ∈ m, q.1 = r.1) hall ⟨by show 0 <= (dM mm p.1).getD 0 + p.2; omega, p, List.mem_of_getElem? hp, rfl⟩, fun g => ?_⟩
  rw [mh g ndm, ht g, gC g hp]
 rintro σ H1 ⟨mm, o1, o2, rfl, s1, d1, hl, hall, ht⟩
 refine ⟨_, rfl, d, mm, rfl, d1, fun v hv => ?_⟩
 have s2 := ah hv (eA v d)
 refine ⟨v, d, mm, rfl, ad, nt s2 d1, fun H3 l ws m' s3 hl' hlst R3 pq pw' => ?_⟩
 refine ⟨l, _, rfl, .inl ⟨SqL.of hlst, fun t ht' => ?_⟩⟩
 have s4 : az H3 (upd H3 t (.tup ws)) := ah ht' _
 rw [lus, List.take_length] at ht
 rw [lus] at hl
 exact q _ (.ref t) m' (s1.trans (s2.trans (s3.trans s4))) ⟨t, ws, rfl, .of ad, cN (fun _ _ e => s4 _ _ e) R3⟩ (fun p hp => hall p (pq.mem_iff.mp hp)) (fun g => by rw [ni g pq, ht g]) (by rw [pq.length_eq]; exact hl)
end
abbrev bR : Stmt := top 12
abbrev cc : Stmt := top 13
abbrev cI : Stmt := top 14
def pd (K : PySem.W.Frag) : Sp := fun vs H Q E => qy K vs H Q E \/ nY K isL vs H Q E \/ nY K (Tp K) vs H Q E
structure KOk (n : Nat) (ps : List Pr) : Prop where
 len : ps.length <= n
 pos : ∀ p ∈ ps, 0 <= p.2
 sum : bD ps <= n
theorem KOk.up {n n' : Nat} {ps : List Pr} (h : KOk n ps) (l : n <= n') : KOk n' ps := ⟨by have := h.len; omega, h.pos, by have := h.sum; omega⟩
theorem cU : ∀ {ps : List Pr}, (∀ p ∈ ps, 0 <= p.2) -> 0 <= bD ps
 | [], _ => Int.le_refl 0
 | p :: ps, h => by
  have h1 := h p List.mem_cons_self
  have h2 := cU (ps := ps) fun q hq => h q (List.mem_cons_of_mem _ hq)
  show 0 <= p.2 + bD ps
  omega
theorem cR {α β : Type} {R : α -> β -> Prop} {x : α} {y : β} (r : R x y) : ∀ {xs : List α} {ys : List β}, Paired R xs ys -> Paired R (xs ++ [x]) (ys ++ [y])
 | _, _, .nil => .cons r .nil
 | _, _, .cons q t => .cons q (cR r t)
theorem eT {α β : Type} {R : α -> β -> Prop} {xs' : List α} {ys' : List β} (r : Paired R xs' ys') : ∀ {xs : List α} {ys : List β}, Paired R xs ys -> Paired R (xs ++ xs') (ys ++ ys')
 | _, _, .nil => r
 | _, _, .cons q t => .cons q (eT r t)
theorem fB {K : PySem.W.Frag} {H H' : Hp} (s : az H H') {m : List PM} {us : List V} (h : Paired (TmR K H) m us) : Paired (TmR K H') m us := cN (fun _ _ e => s _ _ e) h
theorem cF.tup {K : PySem.W.Frag} {H : Hp} {ps : List Pr} {a : Addr} (h : cF K H ps a) : ∃ us, Tp K H a us /\ Reps H (aJ ps) us := by
 rcases h with R | ⟨rfl, R⟩
 ·obtain ⟨a', us, e, ha, ru⟩ := Rep.tup_inv R
  cases e
  exact ⟨us, .of ha, ru⟩
 ·exact ⟨[], R, by simp only [aJ, List.map_nil, Reps]⟩
def qW (g : List Pr -> Int) (c : Int) : List Pr -> Int
 | [] => c * g []
 | p :: ps => p.2 * g [(p.1, 1)] + qW g c ps
def gP (ps : List Pr) : List PM := ps.map fun p => ([(p.1, 1)], p.2)
theorem kc (g : List Pr -> Int) (c : Int) : ∀ ps, sw g (gP ps) + c * g [] = qW g c ps
 | [] => by show 0 + _ = _; rw [Int.zero_add]; rfl
 | p :: ps => by
  have := kc g c ps
  show p.2 * g [(p.1, 1)] + sw g (gP ps) + c * g [] = p.2 * g [(p.1, 1)] + qW g c ps
  omega
theorem ju (g : Str -> Int) (c : Int) : ∀ ps, qW (pw g) c ps = c + W g ps
 | [] => by show c * 1 = c + 0; omega
 | p :: ps => by
  have := ju g c ps
  show p.2 * (g p.1 ^ (1 : Int).toNat * 1) + qW (pw g) c ps = c + (p.2 * g p.1 + W g ps)
  rw [this, show (1 : Int).toNat = 1 from rfl, Int.pow_succ, Int.pow_zero, Int.one_mul, Int.mul_one]
  omega
def je (K : PySem.W.Frag) : Sp := fun vs H Q _ => ∃ (v : V) (c : Int) (ps : List Pr), vs = [v] /\ Rep H (dE c ps) v /\ Lb c ps /\
 ∀ (H' : Hp) (u : V) (m : List PM), az H H' -> SmR K H' m u -> (∀ p ∈ m, 0 <= p.2 /\ KOk 1 p.1) -> m.length <= 4 -> (∀ g, sw (pw g) m = c + W g ps) -> Q u H'
def pZ (K : PySem.W.Frag) : Sp := fun vs H Q _ => ∃ (u v : V) (m1 m2 : List PM), vs = [u, v] /\ SmR K H m1 u /\ SmR K H m2 v /\ (∀ p ∈ m1, 0 <= p.2) /\ (∀ p ∈ m2, 0 <= p.2) /\ m1.length + m2.length <= 80000 /\
 ∀ (H' : Hp) (x : V) (m : List PM), az H H' -> SmR K H' m x -> (∀ p ∈ m, 0 <= p.2 /\ ∃ q ∈ m1 ++ m2, q.1 = p.1) -> (∀ g, sw g m = sw g m1 + sw g m2) -> m.length <= m1.length + m2.length -> Q x H'
def mJ (K : PySem.W.Frag) : Sp := fun vs H Q _ => ∃ (u v : V) (m1 m2 : List PM) (n1 n2 : Nat), vs = [u, v] /\ SmR K H m1 u /\ SmR K H m2 v /\ (∀ p ∈ m1, 0 <= p.2 /\ KOk n1 p.1) /\ (∀ p ∈ m2, 0 <= p.2 /\ p.2 < 2 ^ 64 /\ KOk n2 p.1) /\ n1 + n2 <= 50 /\ m1.length * m2.length <= 80000 /\
 ∀ (H' : Hp) (x : V) (m : List PM), az H H' -> SmR K H' m x -> (∀ p ∈ m, 0 <= p.2 /\ KOk (n1 + n2) p.1) -> (∀ g, sw (pw g) m = sw (pw g) m1 * sw (pw g) m2) -> m.length <= m1.length * m2.length -> Q x H'
section
variable {P : Program} {w : World} {K : PySem.W.Frag} {mg : Str -> Option Value} {base : Heap}
theorem vg {f : Addr} {fd : FuncData} (F : Fun K "gathered" "gathered" bd f fd) (T : Txt K mg) : bg P w K mg base CX0 1 f fd ["parts"] (pd K) := by
 have o1 := uW (P := P) (w := w) (base := base) F T
 have o2 := uP (P := P) (w := w) (base := base) F T
 have o3 := um (P := P) (w := w) (base := base) F T
 refine ⟨fun vs H Q E h => ?_, fun A outer s H args us vs Q E hr he hb hv h => ?_⟩
 ·rcases h with h | h | h
  ·exact o1.1 vs H Q E h
  ·exact o2.1 vs H Q E h
  ·exact o3.1 vs H Q E h
 ·rcases h with h | h | h
  ·exact o1.2 A outer s H args us vs Q E hr he hb hv h
  ·exact o2.2 A outer s H args us vs Q E hr he hb hv h
  ·exact o3.2 A outer s H args us vs Q E hr he hb hv h
theorem fQ : aP ["a", "terms"] ["a"] (aj bR) := ⟨rfl, rfl, rfl, by decide +kernel, rfl, by decide +kernel, by decide +kernel⟩
theorem jO {f : Addr} {fd : FuncData} {k0 : Nat} (F : Fun K "of_length" "of_length" bR f fd) (T : Txt K mg) (Dgathered : Def P w K mg base k0 "gathered" ["parts"] (pd K)) : bg P w K mg base CX0 (k0 + 1) f fd ["a"] (je K) := by
 have nd : (["a", "terms"] : List Str).Nodup := fQ.nd
 refine F.ok fQ (fun vs H Q E h => ?_) (fun cdv A outer s H vs Q E hr h => ?_)
 ·obtain ⟨v, c, ps, rfl, _⟩ := h
  rfl
 obtain ⟨v, c, ps, rfl, R, hL, q⟩ := h
 obtain ⟨a, a1, us, rfl, ha, ha1, ru, lu⟩ := ji R
 have l3 := hL.len
 refine ⟨_, (@ag _ _ _ _ _ (@tu _ _ (["name", "times"]) ([]) _ _ _ _ _ _ _ _ _ _ _ (1) _ nd rfl rfl (@dF _ _ _ _ (@aG _ _ _ _ _ _ _ aE (@pv _ 0 _ _ (by rfl) (by trivial) (by decide) (by decide)) (@ae _ _ _ _) (fun _ _ => rfl))) (.of rfl) rfl (fun _ _ _ => cp rfl (@aN _ _ _ _ _ (@aL _ _ (0) _ (cX (l := ["name", "times"]) ((by decide +kernel)) rfl) rfl (Or.inl rfl) (by trivial)) (@aN _ _ _ _ _ (@aL _ _ (1) _ (cX (l := ["name", "times"]) ((by decide +kernel)) rfl) rfl (Or.inl rfl) (by trivial)) (@bN _) (by rfl)) (by rfl))) (hJ (by decide) (by decide)) (fun _ _ _ => (@cW _)) (fun _ _ _ => (@ba _ _ _ _ _ (@aa _ _ _ _ _ (@ba _ _ _ _ _ (@aa _ _ _ _ _ (@ba _ _ _ _ _ (@aa _ _ _ _ _ (@pv _ 0 _ _ (by rfl) (by trivial) (by decide) (by decide)) (@aa _ _ _ _ _ (@ae _ _ _ _) (@af _) (by rfl)) (by rfl))) (@af _) (by rfl))) (@aa _ _ _ _ _ (@pv _ 1 _ _ (by rfl) (by trivial) (by decide) (by decide)) (@af _) (by rfl)) (by rfl)))) (by rfl) (by intro _; rfl)) (@ag _ _ _ _ _ (@bv _ _ _ _ _ _ _ _ (@aI _ _ _ _ _ _ _ _ ia (@aG _ _ _ _ _ _ _ aE (@pv _ 0 _ _ (by rfl) (by trivial) (by decide) (by decide)) (@ae _ _ _ _) (fun _ _ => rfl)) (@ae _ _ _ _) (aQ _)) (@ao _ _ _ (@cC _ _ _ _ (@gr _ _ _ _ _ _ _ _ _ _ _ _ PySem.F.plainAttrs_list PySem.F.slot_list_append PySem.F.type_list_append ck (@pv _ 1 _ _ (by rfl) (by trivial) (by decide) (by decide)) (@aa _ _ _ _ _ (@ba _ _ _ _ _ (@aa _ _ _ _ _ (@ba _ _ _ _ _ (@af _)) (@aa _ _ _ _ _ (@aG _ _ _ _ _ _ _ aE (@pv _ 0 _ _ (by rfl) (by trivial) (by decide) (by decide)) (@ae _ _ _ _) (fun _ _ => rfl)) (@af _) (by rfl)) (by rfl))) (@af _) (by rfl)) (by rfl) (by rfl) (by rfl) (by rfl) (by rfl)) (by rfl))) (@aS _)) (@ao _ _ _ (@aD _ _ _ _ (@av _ _ _ _ _ _ _ _ _ _ Dgathered hr rfl (@aa _ _ _ _ _ (@pv _ 1 _ _ (by rfl) (by trivial) (by decide) (by decide)) (@af _) (by rfl)) (by decide) (by rfl) (by rfl)))))), ?_⟩
 refine ⟨_, rfl, a, _, 1, .ref a1, rfl, rfl, SqT.of ha, ai (j := 1) rfl, a1, rfl, ⟨us, SqT.of ha1⟩, ?_⟩
 refine jt (xs := us) (fun i ys H' => az H H' /\ Paired (TmR K H') (gP (ps.take i)) ys) ⟨az.refl _, .nil⟩ (fun i ys H' _ p => SqT.of (p.1 _ _ ha1)) ?_ ?_
 ·rintro i ys H1 x hx ⟨s1, R1⟩
  obtain ⟨p, b, hp, rfl, hb⟩ := fH ru hx
  have hi : i < us.length := (List.getElem?_eq_some_iff.mp hx).1
  have ly : ys.length = i := by rw [<- bn R1, gP, List.length_map, List.length_take]; omega
  refine fj (s1 _ _ hb) ⟨_, rfl, z2, fun p1 hp1 => ⟨z1, fun p2 hp2 => ⟨_, rfl, z2, fun p3 hp3 => ⟨by rw [ly, sizeLine_eq]; omega, ?_, ?_⟩⟩⟩⟩
  all_goals have s2 := ah hp1 (.tup [.str p.1, .int 1])
  all_goals have s3 := ah hp2 (.tup [.ref p1])
  all_goals have s4 := ah hp3 (.tup [.ref p2, .int p.2])
  ·exact s1.trans (s2.trans (s3.trans s4))
  ·rw [List.take_add_one, hp, gP, List.map_append]
   refine cR ⟨p3, p2, rfl, .of ad, .inl ?_⟩ (fB (s2.trans (s3.trans s4)) R1)
   simp only [aJ, List.map_cons, List.map_nil, Rep, Reps]
   exact ⟨p2, _, rfl, s4 _ _ ad, _, _, rfl, ⟨p1, _, rfl, s4 _ _ (s3 _ _ ad), _, _, rfl, rfl, _, _, rfl, rfl, rfl⟩, rfl⟩
 ·rintro ys H1 ⟨s1, R1⟩ l hl
  rw [lu, List.take_length] at R1
  have s2 := ah hl (.lst ys)
  have ly : ys.length = ps.length := by rw [<- bn R1, gP, List.length_map]
  have kl : ∀ p ∈ gP ps, 0 <= p.2 /\ KOk 1 p.1 := fun p hp => by
   obtain ⟨r, hr, rfl⟩ := List.mem_map.mp hp
   have := (hL.nm r hr).2
   exact ⟨by show 0 <= r.2; omega, Nat.le_refl 1, fun x hx => by rw [List.mem_singleton.mp hx]; show (0 : Int) <= 1; decide, by show (1 : Int) + 0 <= 1; decide⟩
  refine gnm ?_
  dsimp only
  refine fk (fun σ H' => ∃ (ws : List V) (m : List PM), σ = [some (.ref a), some (.ref l)] /\ az H H' /\ H' l = some (.lst ws) /\ Paired (TmR K H') m ws /\ (∀ p ∈ m, 0 <= p.2 /\ KOk 1 p.1) /\ m.length <= 4 /\ ∀ g, sw (pw g) m = c + W g ps) ?_ (fun N hN => ?_)
  ·rintro σ H2 ⟨ws, m, rfl, s3, h3, R3, k3, l4, e3⟩
   refine ⟨_, rfl, .inr (.inl ⟨l, ws, m, rfl, h3, R3, fun p hp => (k3 p hp).1, by omega, fun H3 u m' s4 R4 k4 e4 l4' => ?_⟩)⟩
   refine q H3 u m' (s3.trans s4) R4 (fun p hp => ⟨(k4 p hp).1, ?_⟩) (by omega) (fun g => by rw [e4, e3])
   obtain ⟨r, hr, e⟩ := (k4 p hp).2
   rw [<- e]; exact (k3 r hr).2
  ·have c0 := hL.c0
   refine ⟨_, rfl, a, _, 0, .int c, rfl, rfl, SqT.of (s2 _ _ (s1 _ _ ha)), ai (j := 0) rfl, _, _, rfl, rfl, _, rfl, aW (fun h => ?_) (fun h => ?_)⟩
   ·refine ⟨_, rfl, .inl ⟨rfl, _, SqL.of ad⟩, Nat.zero_le _, fun p1 hp1 => ⟨_, rfl, a, _, 0, .int c, rfl, rfl, SqT.of (ah hp1 _ _ _ (s2 _ _ (s1 _ _ ha))), ai (j := 0) rfl, z2, fun p2 hp2 => ?_⟩⟩
    have s3 := ah hp1 (.tup [])
    have s4 := ah hp2 (.tup [.ref p1, .int c])
    refine ⟨l, _, _, rfl, rfl, s4 _ _ (s3 _ _ ad), by rw [sizeLine_eq]; omega, ?_⟩
    have s5 := bA.upd (upd (upd (upd H1 l (.lst ys)) p1 (.tup [])) p2 (.tup [.ref p1, .int c])) l (.lst (ys ++ [.ref p2]))
    have t5 := s5.tups (s4 _ _ (s3 _ _ ad))
    have t6 : cO H1 _ := (az.tups (s2.trans (s3.trans s4))).trans t5
    have rk : cF K (upd (upd (upd (upd H1 l (.lst ys)) p1 (.tup [])) p2 (.tup [.ref p1, .int c])) l (.lst (ys ++ [.ref p2]))) ([] : List Pr) p1 := .inl (by
     simp only [aJ, List.map_nil, Rep, Reps]
     exact ⟨p1, _, rfl, t5 _ _ (s4 _ _ ad), rfl⟩)
    refine hN _ _ ⟨_, gP ps ++ [([], c)], rfl, fun e o he => s5 e o (ap (s1 _ _ he) hl) (s4 _ _ (s3 _ _ (s2 _ _ (s1 _ _ he)))), ad, cR ⟨p2, p1, rfl, .of (t5 _ _ ad), rk⟩ (cN t6 R1), fun p hp => ?_, by rw [List.length_append, gP, List.length_map]; simp; omega, fun g => ?_⟩
    ·rcases List.mem_append.mp hp with h | h
     ·exact kl p h
     ·rw [List.mem_singleton.mp h]
      exact ⟨c0, Nat.zero_le _, by simp, by show (0 : Int) <= 1; decide⟩
    ·rw [de, <- ju, <- kc]
     show _ + (c * pw g [] + 0) = _
     omega
   ·have cz : c = 0 := by have : ¬ c > 0 := fun z => h (decide_eq_true z); omega
    refine tnx (hN _ _ ⟨ys, gP ps, rfl, s1.trans s2, ad, fB s2 R1, kl, by rw [gP, List.length_map]; omega, fun g => ?_⟩)
    have := kc (pw g) c ps
    rw [<- ju, <- this, cz]
    omega
theorem lE : aP ["s", "t"] ["s", "t"] (aj cc) := ⟨rfl, rfl, rfl, by decide +kernel, rfl, by decide +kernel, by decide +kernel⟩
theorem kP {f : Addr} {fd : FuncData} {k0 : Nat} (F : Fun K "together" "together" cc f fd) (T : Txt K mg) (Dgathered : Def P w K mg base k0 "gathered" ["parts"] (pd K)) : bg P w K mg base CX0 (k0 + 1) f fd ["s", "t"] (pZ K) := by
 refine F.ok lE (fun vs H Q E h => ?_) (fun cdv A outer s H vs Q E hr h => ?_)
 ·obtain ⟨u, v, m1, m2, rfl, _⟩ := h
  rfl
 obtain ⟨u, v, m1, m2, rfl, ⟨a, us, rfl, ta, R1⟩, ⟨b, ws, rfl, tb, R2⟩, k1, k2, l12, q⟩ := h
 refine ⟨_, (@ao _ _ _ (@aD _ _ _ _ (@av _ _ _ _ _ _ _ _ _ _ Dgathered hr rfl (@aa _ _ _ _ _ (@aq _ _ _ _ _ _ _ _ og (@pv _ 0 _ _ (by rfl) (by trivial) (by decide) (by decide)) (@pv _ 1 _ _ (by rfl) (by trivial) (by decide) (by decide))) (@af _) (by rfl)) (by decide) (by rfl) (by rfl)))), ?_⟩
 have lu := bn R1
 have lw := bn R2
 have fin : ∀ (H1 : Hp) (c : Addr) (zs : List V) (m : List PM), az H H1 -> Tp K H1 c zs -> Paired (TmR K H1) m zs -> m = m1 ++ m2 -> pd K [.ref c] H1 Q E0 := fun H1 c zs m s1 tc Rc e => by
  subst e
  refine .inr (.inr ⟨c, zs, m1 ++ m2, rfl, tc, Rc, fun p hp => ?_, by rw [List.length_append]; exact l12, fun H2 x m s2 Rx kx ex lx => q H2 x m (s1.trans s2) Rx kx (fun g => by rw [ex, de]) (by rw [List.length_append] at lx; exact lx)⟩)
  rcases List.mem_append.mp hp with h | h
  ·exact k1 p h
  ·exact k2 p h
 refine ⟨_, rfl, _, rfl, a, b, us, ws, rfl, rfl, ta.sq, tb.sq, by rw [<- lu, <- lw, sizeLine_eq]; omega, fun e => ?_, fun e => ?_, fun p hp => ?_⟩
 ·have e1 : m1 = [] := List.eq_nil_of_length_eq_zero (by rw [lu, e]; rfl)
  exact fin H b ws m2 (az.refl _) tb R2 (by rw [e1]; rfl)
 ·have e1 : m2 = [] := List.eq_nil_of_length_eq_zero (by rw [lw, e]; rfl)
  exact fin H a us m1 (az.refl _) ta R1 (by rw [e1, List.append_nil])
 ·have s1 := ah hp (.tup (us ++ ws))
  exact fin _ p _ (m1 ++ m2) s1 (.of ad) (eT (fB s1 R2) (fB s1 R1)) rfl
end
abbrev dw : Stmt := top 15
def ev (g : Str -> Int) : Kd -> Int
 | .whole => 1
 | .place _ _ => 1
 | .row c ps k => (c + W g ps) * ev g k
 | .pair i j => ev g i + ev g j
theorem jr (nums : List Pr) : ∀ k, ev (tm nums) k = cnt nums k
 | .whole => rfl
 | .place _ _ => rfl
 | .row c ps k => by show amt nums c ps * ev (tm nums) k = amt nums c ps * cnt nums k; rw [jr nums k]
 | .pair i j => by show ev (tm nums) i + ev (tm nums) j = cnt nums i + cnt nums j; rw [jr nums i, jr nums j]
theorem qR : ∀ ps, pw (fun _ => 1) ps = 1
 | [] => rfl
 | p :: ps => by show 1 ^ p.2.toNat * pw (fun _ => 1) ps = 1; rw [qR ps, Int.one_pow]; rfl
theorem jl : ∀ {m : List PM}, (∀ p ∈ m, 0 <= p.2) -> 0 <= sw (pw fun _ => 1) m /\ ∀ p ∈ m, p.2 <= sw (pw fun _ => 1) m
 | [], _ => ⟨Int.le_refl 0, by simp⟩
 | q :: m, h => by
  obtain ⟨h1, h2⟩ := jl (m := m) fun p hp => h p (List.mem_cons_of_mem _ hp)
  have h0 := h q List.mem_cons_self
  have e : sw (pw fun _ => 1) (q :: m) = q.2 + sw (pw fun _ => 1) m := by show q.2 * pw (fun _ => 1) q.1 + _ = _; rw [qR, Int.mul_one]
  rw [e]
  refine ⟨by omega, fun p hp => ?_⟩
  rcases List.mem_cons.mp hp with rfl | hp
  ·omega
  ·have := h2 p hp; omega
theorem tw : ∀ {ps : List Pr}, (∀ p ∈ ps, Nm p.1 /\ 1 <= p.2 /\ p.2 <= 3) -> 0 <= W (fun _ => 1) ps /\ W (fun _ => 1) ps <= 3 * (ps.length : Int)
 | [], _ => ⟨Int.le_refl 0, Int.le_refl 0⟩
 | p :: ps, h => by
  obtain ⟨h1, h2⟩ := tw (ps := ps) fun q hq => h q (List.mem_cons_of_mem _ hq)
  have h0 := (h p List.mem_cons_self).2
  show 0 <= p.2 * 1 + W (fun _ => 1) ps /\ p.2 * 1 + W (fun _ => 1) ps <= 3 * ((ps.length + 1 : Nat) : Int)
  omega
theorem p18 {a : Nat} : ∀ {b : Nat}, a <= b -> (18 : Int) ^ a <= 18 ^ b /\ (0 : Int) <= 18 ^ b
 | 0, h => by rw [Nat.le_zero.mp h]; exact ⟨Int.le_refl _, by decide⟩
 | b + 1, h => by
  by_cases e : a = b + 1
  ·subst e
   have : ∀ n : Nat, (0 : Int) <= 18 ^ n := fun n => by induction n with
    | zero => decide
    | succ n ih => rw [Int.pow_succ]; omega
   exact ⟨Int.le_refl _, this _⟩
  ·obtain ⟨h1, h2⟩ := p18 (a := a) (b := b) (by omega)
   rw [Int.pow_succ]
   omega
theorem hU : ∀ {k : Kd}, el k -> 0 <= ev (fun _ => 1) k /\ ev (fun _ => 1) k <= 18 ^ k.size
 | .whole, _ => ⟨by show (0 : Int) <= 1; decide, by show (1 : Int) <= 18 ^ 1; decide⟩
 | .place _ _, _ => ⟨by show (0 : Int) <= 1; decide, by show (1 : Int) <= 18 ^ 1; decide⟩
 | .row c ps k, h => by
  obtain ⟨h1, h2⟩ := hU h.2
  obtain ⟨w1, w2⟩ := tw h.1.nm
  have c0 := h.1.c0
  have c1 := h.1.cB
  have l3 := h.1.len
  refine ⟨Int.mul_nonneg (by omega) h1, ?_⟩
  show (c + W (fun _ => 1) ps) * ev (fun _ => 1) k <= 18 ^ (k.size + 1)
  rw [Int.pow_succ, Int.mul_comm]
  exact Int.mul_le_mul h2 (by omega) (by omega) (by omega)
 | .pair i j, h => by
  obtain ⟨h1, h2⟩ := hU h.1
  obtain ⟨h3, h4⟩ := hU h.2
  refine ⟨by show 0 <= ev (fun _ => 1) i + ev (fun _ => 1) j; omega, ?_⟩
  show ev (fun _ => 1) i + ev (fun _ => 1) j <= 18 ^ (i.size + j.size + 1)
  have a1 : (18 : Int) ^ i.size <= 18 ^ (i.size + j.size) := (p18 (by omega)).1
  have a2 : (18 : Int) ^ j.size <= 18 ^ (i.size + j.size) := (p18 (by omega)).1
  have a3 : (18 : Int) ^ (i.size + j.size + 1) = 18 ^ (i.size + j.size) * 18 := Int.pow_succ ..
  omega
def dY (K : PySem.W.Frag) (n : Nat) : Sp := fun vs H Q _ => ∃ (v : V) (k : Kd), vs = [v] /\ Rep H k.dv v /\ k.size <= n /\ k.size <= 12 /\ el k /\ tms k <= 15625 /\
 ∀ (H' : Hp) (u : V) (m : List PM), az H H' -> SmR K H' m u -> (∀ p ∈ m, 0 <= p.2 /\ KOk k.size p.1) -> m.length <= tms k -> (∀ g, sw (pw g) m = ev g k) -> Q u H'
section
variable {P : Program} {w : World} {K : PySem.W.Frag} {mg : Str -> Option Value} {base : Heap}
theorem ib : aP ["s", "t", "terms", "powers", "times", "others", "more"] ["s", "t"] (aj cI) := ⟨rfl, rfl, rfl, by decide +kernel, rfl, by decide +kernel, by decide +kernel⟩
theorem ma {f : Addr} {fd : FuncData} {k0 : Nat} (F : Fun K "product" "product" cI f fd) (T : Txt K mg) (Dgathered : Def P w K mg base k0 "gathered" ["parts"] (pd K)) : bg P w K mg base CX0 (k0 + 1) f fd ["s", "t"] (mJ K) := by
 have nd : (["s", "t", "terms", "powers", "times", "others", "more"] : List Str).Nodup := ib.nd
 refine F.ok ib (fun vs H Q E h => ?_) (fun cdv A outer s H vs Q E hr h => ?_)
 ·obtain ⟨u, v, m1, m2, n1, n2, rfl, _⟩ := h
  rfl
 obtain ⟨u, v, m1, m2, n1, n2, rfl, ⟨a, us, rfl, ta, R1⟩, ⟨b, ws, rfl, tb, R2⟩, k1, k2, n50, l12, q⟩ := h
 have lu := bn R1
 have lw := bn R2
 refine ⟨_, (@ag _ _ _ _ _ (@aB _ _ (2) _ _ _ _ nd rfl (Or.inl rfl) (@cL _ _ _ _ (@af _)) (by rfl) (by trivial)) (@ag _ _ _ _ _ (@cZ _ _ _ _ _ _ _ _ PassesOwn.never rfl (@dF _ _ _ _ (@pv _ 0 _ _ (by rfl) (by trivial) (by decide) (by decide))) (@cp _ _ _ _ _ _ rfl (@aN _ _ _ _ _ (@aL _ _ (3) _ nd rfl (Or.inl rfl) (by trivial)) (@aN _ _ _ _ _ (@aL _ _ (4) _ nd rfl (Or.inl rfl) (by trivial)) (@bN _) (by rfl)) (by rfl)) (by rfl) (by rfl)) (@ao _ _ _ (@cZ _ _ _ _ _ _ _ _ PassesOwn.never rfl (@dF _ _ _ _ (@pv _ 1 _ _ (by rfl) (by trivial) (by decide) (by decide))) (@cp _ _ _ _ _ _ rfl (@aN _ _ _ _ _ (@aL _ _ (5) _ nd rfl (Or.inl rfl) (by trivial)) (@aN _ _ _ _ _ (@aL _ _ (6) _ nd rfl (Or.inl rfl) (by trivial)) (@bN _) (by rfl)) (by rfl)) (by rfl) (by rfl)) (@ao _ _ _ (@cC _ _ _ _ (@gr _ _ _ _ _ _ _ _ _ _ _ _ PySem.F.plainAttrs_list PySem.F.slot_list_append PySem.F.type_list_append ck (@pv _ 2 _ _ (by rfl) (by trivial) (by decide) (by decide)) (@aa _ _ _ _ _ (@ba _ _ _ _ _ (@aa _ _ _ _ _ (@av _ _ _ _ _ _ _ _ _ _ Dgathered hr rfl (@aa _ _ _ _ _ (@aq _ _ _ _ _ _ _ _ og (@pv _ 3 _ _ (by rfl) (by trivial) (by decide) (by decide)) (@pv _ 5 _ _ (by rfl) (by trivial) (by decide) (by decide))) (@af _) (by rfl)) (by decide) (by rfl) (by rfl)) (@aa _ _ _ _ _ (@aq _ _ _ _ _ _ _ _ bF (@pv _ 4 _ _ (by rfl) (by trivial) (by decide) (by decide)) (@pv _ 6 _ _ (by rfl) (by trivial) (by decide) (by decide))) (@af _) (by rfl)) (by rfl))) (@af _) (by rfl)) (by rfl) (by rfl) (by rfl) (by rfl) (by rfl)) (by rfl))) (by intro _; rfl))) (by intro _; rfl)) (@ao _ _ _ (@aD _ _ _ _ (@av _ _ _ _ _ _ _ _ _ _ Dgathered hr rfl (@aa _ _ _ _ _ (@pv _ 2 _ _ (by rfl) (by trivial) (by decide) (by decide)) (@af _) (by rfl)) (by decide) (by rfl) (by rfl)))))), ?_⟩
 refine ⟨Nat.zero_le _, fun L hL => ?_⟩
 have q0 := ah hL (.lst [])
 have up : ∀ {H'}, az H H' -> cO H H' := fun s => az.tups s
 have Inv0 : (fun (i : Nat) (S : (Str -> Int) -> Int) (H' : Hp) => ∃ (zs : List V) (m : List PM), az H H' /\ H' L = some (.lst zs) /\ Paired (TmR K H') m zs /\ (∀ p ∈ m, 0 <= p.2 /\ KOk (n1 + n2) p.1) /\ m.length = i /\ ∀ g, sw (pw g) m = S g) 0 (fun _ => 0) (upd H L (.lst [])) := ⟨[], [], q0, ad, .nil, by simp, rfl, fun g => rfl⟩
 generalize hI : (fun (i : Nat) (S : (Str -> Int) -> Int) (H' : Hp) => ∃ (zs : List V) (m : List PM), az H H' /\ H' L = some (.lst zs) /\ Paired (TmR K H') m zs /\ (∀ p ∈ m, 0 <= p.2 /\ KOk (n1 + n2) p.1) /\ m.length = i /\ ∀ g, sw (pw g) m = S g) = Iv at Inv0
 have Is : ∀ {i S H'}, Iv i S H' -> az H H' := fun h => by rw [<- hI] at h; obtain ⟨_, _, s, _⟩ := h; exact s
 refine ⟨_, rfl, a, rfl, ⟨us, (ta.tups (up q0)).sq⟩, fG (xs := us) (fun i σ H' => ∃ (o3 o4 o5 o6 : Option V), σ = [some (.ref a), some (.ref b), some (.ref L), o3, o4, o5, o6] /\ Iv (i * m2.length) (fun g => sw (pw g) (m1.take i) * sw (pw g) m2) H') ⟨_, _, _, _, rfl, ?_⟩ (fun i σ H' _ ⟨_, _, _, _, _, h⟩ => (ta.tups (up (Is h))).sq) ?_ ?_⟩
 ·rw [Nat.zero_mul, show (fun g => sw (pw g) (m1.take 0) * sw (pw g) m2) = fun _ => 0 from funext fun g => by rw [List.take_zero]; exact Int.zero_mul _]
  rw [<- hI]
  exact Inv0
 ·rintro i x σ H1 hx ⟨o3, o4, o5, o6, rfl, v1⟩
  obtain ⟨p, hp, c, kp, rfl, tc, kr⟩ := cg R1 hx
  have hi : i < m1.length := by rw [lu]; exact (List.getElem?_eq_some_iff.mp hx).1
  have s1 := Is v1
  refine ⟨c, _, rfl, (tc.tups (up s1)).sq, rfl, _, _, rfl, _, _, rfl, rfl, ?_⟩
  refine ⟨_, rfl, b, rfl, ⟨ws, (tb.tups (up s1)).sq⟩, fG (xs := ws) (fun j σ H' => ∃ (o5 o6 : Option V), σ = [some (.ref a), some (.ref b), some (.ref L), some (.ref kp), some (.int p.2), o5, o6] /\ Iv (i * m2.length + j) (fun g => sw (pw g) (m1.take i) * sw (pw g) m2 + p.2 * pw g p.1 * sw (pw g) (m2.take j)) H') ⟨_, _, rfl, ?_⟩ (fun j σ H' _ ⟨_, _, _, h⟩ => (tb.tups (up (Is h))).sq) ?_ ?_⟩
  ·have : (fun g => sw (pw g) (m1.take i) * sw (pw g) m2 + p.2 * pw g p.1 * sw (pw g) (m2.take 0)) = fun g => sw (pw g) (m1.take i) * sw (pw g) m2 := funext fun g => by
    rw [List.take_zero]
    show _ + _ * 0 = _
    rw [Int.mul_zero, Int.add_zero]
   rw [this]; exact v1
  ·rintro j y σ H2 hy ⟨o5, o6, rfl, v2⟩
   obtain ⟨r, hr', c2, kq, rfl, tc2, kr2⟩ := cg R2 hy
   have hj : j < m2.length := by rw [lw]; exact (List.getElem?_eq_some_iff.mp hy).1
   have s2 := Is v2
   have kp1 := k1 p (List.mem_of_getElem? hp)
   have kr1 := k2 r (List.mem_of_getElem? hr')
   obtain ⟨xs, tx, rx⟩ := cF.tup (kr.mono s2)
   obtain ⟨ys, ty, ry⟩ := cF.tup (kr2.mono s2)
   have lx : xs.length = p.1.length := by have := rx.length; rwa [aJ, List.length_map] at this
   have lys : ys.length = r.1.length := by have := ry.length; rwa [aJ, List.length_map] at this
   have b1 := kp1.2.len
   have b2 := kr1.2.2.len
   have ij : i * m2.length + j < 80000 := by
    have : i * m2.length + m2.length <= m1.length * m2.length := by
     rw [<- Nat.succ_mul]; exact Nat.mul_le_mul_right _ hi
    omega
   refine ⟨c2, _, rfl, (tc2.tups (up s2)).sq, rfl, _, _, rfl, _, _, rfl, rfl, ?_⟩
   rw [<- hI] at v2
   obtain ⟨zs, m, s2', hLz, Rz, kz, lz, ez⟩ := v2
   have lzs := bn Rz
   refine ⟨_, rfl, .inl ⟨rfl, _, SqL.of hLz⟩, _, rfl, _, rfl, kp, kq, xs, ys, rfl, rfl, tx.sq, ty.sq, by rw [lx, lys, sizeLine_eq]; omega, ?_⟩
   have fin : ∀ (H3 : Hp) (d : Addr), az H2 H3 -> cF K H3 (p.1 ++ r.1) d -> qy K [.ref d] H3 (fun x H4 => ∃ y, some (some (V.int p.2)) = some (some y) /\ ∃ z, some (some (V.int r.2)) = some (some z) /\ rI sR (fun i j => V.int (i * j)) y z H4 fun zz H5 => 2 <= sizeLine /\ ∀ e, H5 e = none -> nN (.ref L) [.ref e] (upd H5 e (.tup [x, zz])) fun _ H6 => ∃ (o5 o6 : Option V), [some (V.ref a), some (.ref b), some (.ref L), some (.ref kp), some (.int p.2), some (.ref kq), some (.int r.2)] = [some (V.ref a), some (.ref b), some (.ref L), some (.ref kp), some (.int p.2), o5, o6] /\ Iv (i * m2.length + (j + 1)) (fun g => sw (pw g) (m1.take i) * sw (pw g) m2 + p.2 * pw g p.1 * sw (pw g) (m2.take (j + 1))) H6) E0 := fun H3 d s3 kd => by
    refine ⟨d, p.1 ++ r.1, rfl, kd, fun z hz => ?_, by rw [List.length_append]; omega, fun H4 e qs s4 ke pe pwe pse le => ?_⟩
    ·rcases List.mem_append.mp hz with h | h
     ·exact kp1.2.pos z h
     ·exact kr1.2.2.pos z h
    ·refine ⟨_, rfl, _, rfl, _, _, rfl, rfl, .inr ⟨by omega, kr1.2.1⟩, z2, fun g hg => ?_⟩
     have s5 := ah hg (.tup [.ref e, .int (p.2 * r.2)])
     refine ⟨L, _, _, rfl, rfl, s5 _ _ (s4 _ _ (s3 _ _ hLz)), by rw [<- lzs, lz, sizeLine_eq]; omega, ?_⟩
     have s6 := bA.upd (upd H4 g (.tup [.ref e, .int (p.2 * r.2)])) L (.lst (zs ++ [.ref g]))
     have t6 := s6.tups (s5 _ _ (s4 _ _ (s3 _ _ hLz)))
     refine ⟨_, _, rfl, ?_⟩
     rw [<- hI]
     refine ⟨zs ++ [.ref g], m ++ [(qs, p.2 * r.2)], fun z o hz => s6 z o (ap hz hL) (s5 _ _ (s4 _ _ (s3 _ _ (s2 _ _ hz)))), ad, cR ⟨g, e, rfl, .of (t6 _ _ ad), (ke.mono s5).tups t6⟩ (cN ((az.tups (s3.trans (s4.trans s5))).trans t6) Rz), fun z hz => ?_, by rw [List.length_append, lz]; rfl, fun g' => ?_⟩
     ·rcases List.mem_append.mp hz with h | h
      ·exact kz z h
      ·rw [List.mem_singleton.mp h]
       refine ⟨Int.mul_nonneg kp1.1 kr1.1, ?_, pe, ?_⟩
       ·show qs.length <= n1 + n2
        rw [List.length_append] at le; omega
       ·show bD qs <= ((n1 + n2 : Nat) : Int)
        have := kp1.2.sum
        have := kr1.2.2.sum
        rw [pse, cm]; omega
     ·have ez' : sw (pw g') m = sw (pw g') (m1.take i) * sw (pw g') m2 + p.2 * pw g' p.1 * sw (pw g') (m2.take j) := ez g'
      show _ = sw (pw g') (m1.take i) * sw (pw g') m2 + p.2 * pw g' p.1 * sw (pw g') (m2.take (j + 1))
      rw [de, ez', gC (pw g') hr']
      show _ + (p.2 * r.2 * pw g' qs + 0) = _
      rw [pwe g', eM, Int.add_zero, Int.mul_add, <- Int.add_assoc]
      congr 1
      rw [Int.mul_assoc, Int.mul_assoc, Int.mul_left_comm r.2]
   refine ⟨fun e => .inl (fin H2 kq (az.refl _) ?_), fun e => .inl (fin H2 kp (az.refl _) ?_), fun d hd => .inl (fin _ d (ah hd _) (.inl ?_))⟩
   ·have e1 : p.1 = [] := List.eq_nil_of_length_eq_zero (by rw [<- lx, e]; rfl)
    rw [e1]; exact kr2.mono s2
   ·have e1 : r.1 = [] := List.eq_nil_of_length_eq_zero (by rw [<- lys, e]; rfl)
    rw [e1, List.append_nil]; exact kr.mono s2
   ·simp only [Rep]
    refine ⟨d, _, rfl, ad, ?_⟩
    have e : aJ (p.1 ++ r.1) = aJ p.1 ++ aJ r.1 := List.map_append
    rw [e]
    exact Reps.append (rx.mono (ah hd _)) (ry.mono (ah hd _))
  ·rintro σ H2 ⟨o5, o6, rfl, v2⟩
   refine ⟨_, _, _, _, rfl, ?_⟩
   rw [<- lw, List.take_length] at v2
   rw [Nat.succ_mul]
   have : (fun g => sw (pw g) (m1.take (i + 1)) * sw (pw g) m2) = fun g => sw (pw g) (m1.take i) * sw (pw g) m2 + p.2 * pw g p.1 * sw (pw g) m2 := funext fun g => by rw [gC (pw g) hp, Int.add_mul]
   rw [this]
   exact v2
 ·rintro σ H1 ⟨o3, o4, o5, o6, rfl, v1⟩
  rw [<- lu, List.take_length, <- hI] at v1
  obtain ⟨zs, m, s1, hLz, Rz, kz, lz, ez⟩ := v1
  refine ⟨_, rfl, .inr (.inl ⟨L, zs, m, rfl, hLz, Rz, fun p hp => (kz p hp).1, by omega, fun H2 x m' s2 Rx kx ex lx => ?_⟩)⟩
  refine q H2 x m' (s1.trans s2) Rx (fun p hp => ⟨(kx p hp).1, ?_⟩) (fun g => by rw [ex, ez]) (by omega)
  obtain ⟨r, hr', e⟩ := (kx p hp).2
  rw [<- e]; exact (kz r hr').2
end
section
variable {P : Program} {w : World} {K : PySem.W.Frag} {mg : Str -> Option Value} {base : Heap}
theorem oE : aP ["kind"] ["kind"] (aj dw) := ⟨rfl, rfl, rfl, by decide +kernel, rfl, by decide +kernel, by decide +kernel⟩
theorem oJ {f aONE : Addr} {fd : FuncData} {k0 n : Nat} (F : Fun K "weight" "weight" dw f fd) (T : Txt K mg) (GONE : mg "ONE" = some (.ref aONE)) (hONE : ∀ H, SmR K H [([], 1)] (.ref aONE)) (Dof_length : Def P w K mg base k0 "of_length" ["a"] (je K)) (Dtogether : Def P w K mg base k0 "together" ["s", "t"] (pZ K)) (Dproduct : Def P w K mg base k0 "product" ["s", "t"] (mJ K)) (Dweight : Def P w K mg base k0 "weight" ["kind"] (dY K n)) : bg P w K mg base CX0 (k0 + 1) f fd ["kind"] (dY K (n + 1)) := by
 refine F.ok oE (fun vs H Q E h => ?_) (fun cdv A outer s H vs Q E hr h => ?_)
 ·obtain ⟨v, k, rfl, _⟩ := h
  rfl
 obtain ⟨v, k, rfl, R, kn, k12, kg, tk, q⟩ := h
 obtain ⟨b, vs, rfl, hb, hv⟩ := Kd.inv R
 refine ⟨_, (@ag _ _ _ _ _ (@bv _ _ _ _ _ _ _ _ (@aI _ _ _ _ _ _ _ _ bM (@aG _ _ _ _ _ _ _ aE (@pv _ 0 _ _ (by rfl) (by trivial) (by decide) (by decide)) (@ae _ _ _ _) (fun _ _ => rfl)) (@aM _ _ _ _) (aQ _)) (@ao _ _ _ (@aD _ _ _ _ (@av _ _ _ _ _ _ _ _ _ _ Dproduct hr rfl (@aa _ _ _ _ _ (@av _ _ _ _ _ _ _ _ _ _ Dof_length hr rfl (@aa _ _ _ _ _ (@aG _ _ _ _ _ _ _ aE (@pv _ 0 _ _ (by rfl) (by trivial) (by decide) (by decide)) (@ae _ _ _ _) (fun _ _ => rfl)) (@af _) (by rfl)) (by decide) (by rfl) (by rfl)) (@aa _ _ _ _ _ (@av _ _ _ _ _ _ _ _ _ _ Dweight hr rfl (@aa _ _ _ _ _ (@aG _ _ _ _ _ _ _ aE (@pv _ 0 _ _ (by rfl) (by trivial) (by decide) (by decide)) (@ae _ _ _ _) (fun _ _ => rfl)) (@af _) (by rfl)) (by decide) (by rfl) (by rfl)) (@af _) (by rfl)) (by rfl)) (by decide) (by rfl) (by rfl)))) (@aS _)) (@ag _ _ _ _ _ (@bv _ _ _ _ _ _ _ _ (@aI _ _ _ _ _ _ _ _ bM (@aG _ _ _ _ _ _ _ aE (@pv _ 0 _ _ (by rfl) (by trivial) (by decide) (by decide)) (@ae _ _ _ _) (fun _ _ => rfl)) (@aM _ _ _ _) (aQ _)) (@ao _ _ _ (@aD _ _ _ _ (@av _ _ _ _ _ _ _ _ _ _ Dtogether hr rfl (@aa _ _ _ _ _ (@av _ _ _ _ _ _ _ _ _ _ Dweight hr rfl (@aa _ _ _ _ _ (@aG _ _ _ _ _ _ _ aE (@pv _ 0 _ _ (by rfl) (by trivial) (by decide) (by decide)) (@ae _ _ _ _) (fun _ _ => rfl)) (@af _) (by rfl)) (by decide) (by rfl) (by rfl)) (@aa _ _ _ _ _ (@av _ _ _ _ _ _ _ _ _ _ Dweight hr rfl (@aa _ _ _ _ _ (@aG _ _ _ _ _ _ _ aE (@pv _ 0 _ _ (by rfl) (by trivial) (by decide) (by decide)) (@ae _ _ _ _) (fun _ _ => rfl)) (@af _) (by rfl)) (by decide) (by rfl) (by rfl)) (@af _) (by rfl)) (by rfl)) (by decide) (by rfl) (by rfl)))) (@aS _)) (@ao _ _ _ (@aD _ _ _ _ (@nA _ _ (.ref aONE) _ _ rfl GONE rfl (by decide)))))), ?_⟩
 have leaf : k.size = 1 -> tms k = 1 -> (∀ g, ev g k = 1) -> Q (.ref aONE) H := fun e1 e2 e3 => q H _ [([], 1)] (az.refl _) (hONE H) (fun p hp => by rw [List.mem_singleton.mp hp]; exact ⟨by show (0 : Int) <= 1; decide, Nat.zero_le _, by simp, by show (0 : Int) <= _; omega⟩) (by rw [e2]; exact Nat.le_refl 1) (fun g => by rw [e3]; show (1 : Int) * 1 + 0 = 1; decide)
 cases k with
 | whole =>
  subst hv
  refine ⟨_, rfl, b, _, 0, .str "whole", rfl, rfl, SqT.of hb, ai (j := 0) rfl, rfl, _, rfl, aW (fun h => absurd h (by decide +kernel)) (fun _ => ?_)⟩
  refine ⟨_, rfl, b, _, 0, .str "whole", rfl, rfl, SqT.of hb, ai (j := 0) rfl, rfl, _, rfl, aW (fun h => absurd h (by decide +kernel)) (fun _ => ?_)⟩
  exact leaf rfl rfl (fun _ => rfl)
 | place c ps =>
  obtain ⟨l, rfl, Rl⟩ := hv
  refine ⟨_, rfl, b, _, 0, .str "place", rfl, rfl, SqT.of hb, ai (j := 0) rfl, rfl, _, rfl, aW (fun h => absurd h (by decide +kernel)) (fun _ => ?_)⟩
  refine ⟨_, rfl, b, _, 0, .str "place", rfl, rfl, SqT.of hb, ai (j := 0) rfl, rfl, _, rfl, aW (fun h => absurd h (by decide +kernel)) (fun _ => ?_)⟩
  exact leaf rfl rfl (fun _ => rfl)
 | row c ps j =>
  obtain ⟨l, u, rfl, Rl, Ru⟩ := hv
  have jn : j.size <= n := by have : j.size + 1 <= n + 1 := kn; omega
  have j12 : j.size + 1 <= 12 := k12
  have tj : 4 * tms j <= 15625 := tk
  refine ⟨_, rfl, b, _, 0, .str "row", rfl, rfl, SqT.of hb, ai (j := 0) rfl, rfl, _, rfl, aW (fun _ => ?_) (fun h => absurd (by decide +kernel) h)⟩
  refine ⟨_, rfl, b, _, 1, l, rfl, rfl, SqT.of hb, ai (j := 1) rfl, l, c, ps, rfl, Rl, kg.1, fun H1 u1 m1 s1 R1 k1 l1 e1 => ?_⟩
  refine ⟨_, rfl, b, _, 2, u, rfl, rfl, SqT.of (s1 _ _ hb), ai (j := 2) rfl, u, j, rfl, Ru.mono s1, jn, by omega, kg.2, by omega, fun H2 u2 m2 s2 R2 k2 l2 e2 => ?_⟩
  obtain ⟨_, c2⟩ := jl (m := m2) fun p hp => (k2 p hp).1
  have b2 : sw (pw fun _ => 1) m2 < 2 ^ 64 := by
   rw [e2]
   have h1 := (hU kg.2).2
   have h2 := (p18 (a := j.size) (b := 12) (by omega)).1
   have h3 : (18 : Int) ^ 12 < 2 ^ 64 := by decide
   omega
  have ml : m1.length * m2.length <= 4 * tms j := Nat.mul_le_mul l1 l2
  refine ⟨u1, u2, m1, m2, 1, j.size, rfl, R1.mono s2, R2, k1, fun p hp => ⟨(k2 p hp).1, by have := c2 p hp; omega, (k2 p hp).2⟩, by omega, by omega, fun H3 x m s3 R3 k3 e3 l3 => ?_⟩
  refine q H3 x m (s1.trans (s2.trans s3)) R3 (fun p hp => ⟨(k3 p hp).1, (k3 p hp).2.up (by show 1 + j.size <= j.size + 1; omega)⟩) (by show m.length <= 4 * tms j; omega) (fun g => ?_)
  rw [e3, e1, e2]; rfl
 | pair i j =>
  obtain ⟨l, u, rfl, Rl, Ru⟩ := hv
  have ks : i.size + j.size + 1 <= n + 1 := kn
  have k12' : i.size + j.size + 1 <= 12 := k12
  have tj : tms i + tms j <= 15625 := tk
  refine ⟨_, rfl, b, _, 0, .str "pair", rfl, rfl, SqT.of hb, ai (j := 0) rfl, rfl, _, rfl, aW (fun h => absurd h (by decide +kernel)) (fun _ => ?_)⟩
  refine ⟨_, rfl, b, _, 0, .str "pair", rfl, rfl, SqT.of hb, ai (j := 0) rfl, rfl, _, rfl, aW (fun _ => ?_) (fun h => absurd (by decide +kernel) h)⟩
  refine ⟨_, rfl, b, _, 1, l, rfl, rfl, SqT.of hb, ai (j := 1) rfl, l, i, rfl, Rl, by omega, by omega, kg.1, by omega, fun H1 u1 m1 s1 R1 k1 l1 e1 => ?_⟩
  refine ⟨_, rfl, b, _, 2, u, rfl, rfl, SqT.of (s1 _ _ hb), ai (j := 2) rfl, u, j, rfl, Ru.mono s1, by omega, by omega, kg.2, by omega, fun H2 u2 m2 s2 R2 k2 l2 e2 => ?_⟩
  refine ⟨u1, u2, m1, m2, rfl, R1.mono s2, R2, fun p hp => (k1 p hp).1, fun p hp => (k2 p hp).1, by omega, fun H3 x m s3 R3 k3 e3 l3 => ?_⟩
  refine q H3 x m (s1.trans (s2.trans s3)) R3 (fun p hp => ⟨(k3 p hp).1, ?_⟩) (by show m.length <= tms i + tms j; omega) (fun g => by rw [e3, e1, e2]; rfl)
  obtain ⟨r, hr', e⟩ := (k3 p hp).2
  rw [<- e]
  rcases List.mem_append.mp hr' with h | h
  ·exact (k1 r h).2.up (by show i.size <= i.size + j.size + 1; omega)
  ·exact (k2 r h).2.up (by show j.size <= i.size + j.size + 1; omega)
end
abbrev dz : Stmt := top 16
abbrev bq : Stmt := top 17
abbrev bS : Stmt := top 18
def jx : Sp := fun vs H Q _ => ∃ (b p : Int), vs = [.int b, .int p] /\ 0 <= b /\ b <= 60 /\ 0 <= p /\ p <= 12 /\ Q (.int (b ^ p.toNat)) H
def iu (K : PySem.W.Frag) : Sp := fun vs H Q _ => ∃ (a d : Addr) (ps nums : List Pr), vs = [.ref a, .ref d] /\ cF K H ps a /\ KOk 12 ps /\ NB nums /\ H d = some (.dK (dk nums)) /\ Q (.int (pw (tm nums) ps)) H
def iw (K : PySem.W.Frag) : Sp := fun vs H Q _ => ∃ (v : V) (d : Addr) (m : List PM) (nums : List Pr), vs = [v, .ref d] /\ SmR K H m v /\ (∀ p ∈ m, 0 <= p.2 /\ p.2 < 2 ^ 64 /\ KOk 12 p.1) /\ m.length <= 80000 /\ NB nums /\ H d = some (.dK (dk nums)) /\ ∀ H', az H H' -> Q (.int (sw (pw (tm nums)) m)) H'
theorem p60 {b : Int} (h0 : 0 <= b) (h1 : b <= 60) : ∀ n : Nat, 0 <= b ^ n /\ b ^ n <= 60 ^ n
 | 0 => by rw [Int.pow_zero, Int.pow_zero]; decide
 | n + 1 => by
  obtain ⟨a1, a2⟩ := p60 h0 h1 n
  rw [Int.pow_succ, Int.pow_succ]
  exact ⟨Int.mul_nonneg a1 h0, Int.mul_le_mul a2 h1 h0 (by omega)⟩
theorem q60 : ∀ {n m : Nat}, n <= m -> (60 : Int) ^ n <= 60 ^ m /\ (1 : Int) <= 60 ^ m
 | n, 0, h => by rw [Nat.le_zero.mp h]; exact ⟨Int.le_refl _, by decide⟩
 | n, m + 1, h => by
  by_cases e : n = m + 1
  ·subst e
   obtain ⟨_, h2⟩ := q60 (n := m) (m := m) (Nat.le_refl _)
   rw [Int.pow_succ]
   exact ⟨Int.le_refl _, by omega⟩
  ·obtain ⟨h1, h2⟩ := q60 (n := n) (m := m) (by omega)
   rw [Int.pow_succ]
   omega
theorem kM {g : Str -> Int} (h0 : ∀ x, 0 <= g x) (h1 : ∀ x, g x <= 60) : ∀ {ps : List Pr}, (∀ p ∈ ps, 0 <= p.2) -> 0 <= pw g ps /\ pw g ps <= 60 ^ (bD ps).toNat
 | [], _ => ⟨by show (0 : Int) <= 1; decide, by show (1 : Int) <= 60 ^ 0; decide⟩
 | p :: ps, h => by
  obtain ⟨a1, a2⟩ := kM h0 h1 (ps := ps) fun q hq => h q (List.mem_cons_of_mem _ hq)
  obtain ⟨b1, b2⟩ := p60 (h0 p.1) (h1 p.1) p.2.toNat
  have c1 := cU (ps := ps) fun q hq => h q (List.mem_cons_of_mem _ hq)
  have c2 := h p List.mem_cons_self
  refine ⟨Int.mul_nonneg b1 a1, ?_⟩
  show g p.1 ^ p.2.toNat * pw g ps <= 60 ^ (p.2 + bD ps).toNat
  rw [Int.toNat_add c2 c1, Int.pow_add]
  exact Int.mul_le_mul b2 a2 a1 (by have := (q60 (n := 0) (m := p.2.toNat) (Nat.zero_le _)).2; omega)
section
variable {k : Nat} {ix : List Nat} {te : TE} {σ : St}
theorem oj {i j : Nat} {K : PySem.W.Frag} {a : Addr} {x y : V} {ys : List V} {H : Hp} {N : List V -> Hp -> Prop} (ha : SqT K H a [x, y]) (h : te (((dh k ix σ).set i (some x)).set j (some y)) H fun y H4 => ys.length < sizeLine /\ N (ys ++ [y]) H4) :
  dX k ix (qD K 2 (eV (cV i) (eV (cV j) mD))) sN te σ (.ref a) ys H N := by
 refine ⟨a, _, rfl, ha, rfl, _, _, rfl, _, _, rfl, rfl, ?_⟩
 exact fY (B := N ys H) h
end
section
variable {P : Program} {w : World} {K : PySem.W.Frag} {mg : Str -> Option Value} {base : Heap}
theorem iY : aP ["base", "power", "total"] ["base", "power"] (aj dz) := ⟨rfl, rfl, rfl, by decide +kernel, rfl, by decide +kernel, by decide +kernel⟩
theorem oN {f : Addr} {fd : FuncData} (F : Fun K "to_the" "to_the" dz f fd) (T : Txt K mg) : bg P w K mg base CX0 1 f fd ["base", "power"] jx := by
 have nd : (["base", "power", "total"] : List Str).Nodup := iY.nd
 refine F.ok iY (fun vs H Q E h => ?_) (fun cdv A outer s H vs Q E hr h => ?_)
 ·obtain ⟨b, p, rfl, _⟩ := h
  rfl
 obtain ⟨b, p, rfl, b0, b1, p0, p1, q⟩ := h
 refine ⟨_, (@ag _ _ _ _ _ (@aB _ _ (2) _ _ _ _ nd rfl (Or.inl rfl) (@ae _ _ _ _) (by rfl) (by trivial)) (@ag _ _ _ _ _ (@io _ _ _ _ _ _ PassesOwn.never (@aI _ _ _ _ _ _ _ _ ia (@pv _ 1 _ _ (by rfl) (by trivial) (by decide) (by decide)) (@ae _ _ _ _) (aQ _)) (@ag _ _ _ _ _ (@bv _ _ _ _ _ _ _ _ (@aI _ _ _ _ _ _ _ _ bM (@aq _ _ _ _ _ _ _ _ bm (@pv _ 1 _ _ (by rfl) (by trivial) (by decide) (by decide)) (@ae _ _ _ _)) (@ae _ _ _ _) (aQ _)) (@ao _ _ _ (@aB _ _ (2) _ _ _ _ nd rfl (Or.inl rfl) (@aq _ _ _ _ _ _ _ _ bF (@pv _ 2 _ _ (by rfl) (by trivial) (by decide) (by decide)) (@pv _ 0 _ _ (by rfl) (by trivial) (by decide) (by decide))) (by rfl) (by trivial))) (@aS _)) (@ag _ _ _ _ _ (@aB _ _ (0) _ _ _ _ nd rfl (Or.inl rfl) (@aq _ _ _ _ _ _ _ _ bF (@pv _ 0 _ _ (by rfl) (by trivial) (by decide) (by decide)) (@pv _ 0 _ _ (by rfl) (by trivial) (by decide) (by decide))) (by rfl) (by trivial)) (@ao _ _ _ (@aB _ _ (1) _ _ _ _ nd rfl (Or.inl rfl) (@aq _ _ _ _ _ _ _ _ br (@pv _ 1 _ _ (by rfl) (by trivial) (by decide) (by decide)) (@ae _ _ _ _)) (by rfl) (by trivial)))))) (@ao _ _ _ (@aD _ _ _ _ (@pv _ 2 _ _ (by rfl) (by trivial) (by decide) (by decide)))))), ?_⟩
 refine ki (fun m σ H' => H' = H /\ ∃ (e t u : Nat), σ = [some (.int (b ^ e)), some (.int u), some (.int (b ^ t))] /\ t + e * u = p.toNat /\ m = u /\ (e = 1 \/ e = 2 \/ e = 4 \/ e = 8 \/ e = 16)) p.toNat
  ⟨rfl, 1, 0, p.toNat, by rw [Int.toNat_of_nonneg p0, Int.pow_succ, Int.pow_zero, Int.one_mul]; rfl, by omega, rfl, .inl rfl⟩ ?_ ?_
 ·rintro m σ H1 ⟨rfl, e, t, u, rfl, ht, hm, e1⟩
  refine ⟨_, rfl, _, _, rfl, rfl, _, rfl, ?_⟩
  by_cases h : 0 < u
  ·rw [show decide ((0 : Int) < (u : Int)) = true from decide_eq_true (by omega)]
   refine fY ?_
   have ee : e * 1 <= e * u := Nat.mul_le_mul_left _ h
   have e8 : e <= 8 := by omega
   have be : 0 <= b ^ e /\ b ^ e < 2 ^ 64 := by
    obtain ⟨h0, h1⟩ := p60 b0 b1 e
    have h2 := (q60 e8).1
    have h3 : (60 : Int) ^ 8 < 2 ^ 64 := by decide
    exact ⟨h0, by omega⟩
   have mu := Nat.mod_two_eq_zero_or_one u
   have du := Nat.div_add_mod u 2
   have m2 : e * u = e * 2 * (u / 2) + e * (u % 2) := by rw [Nat.mul_assoc, <- Nat.mul_add, du]
   have cu : ((u : Int) % 2) = ((u % 2 : Nat) : Int) := by omega
   have cd : ((u : Int) / 2) = ((u / 2 : Nat) : Int) := by omega
   have bb : b ^ e * b ^ e = b ^ (e * 2) := by rw [<- Int.pow_add]; congr 1; omega
   refine fk (fun σ H' => H' = H1 /\ ∃ t', σ = [some (.int (b ^ e)), some (.int u), some (.int (b ^ t'))] /\ t' + e * 2 * (u / 2) = p.toNat) ?_ (fun N hN => ?_)
   ·rintro σ H2 ⟨rfl, t', rfl, ht'⟩
    refine ⟨_, rfl, _, rfl, _, _, rfl, rfl, .inl ⟨by omega, be.2⟩, ?_⟩
    refine ⟨_, rfl, _, _, rfl, rfl, ⟨by decide, by decide⟩, ?_⟩
    refine ⟨u / 2, by omega, rfl, e * 2, t', u / 2, ?_, ht', rfl, by omega⟩
    rw [<- bb, <- cd]; rfl
   ·refine ⟨_, rfl, _, _, rfl, rfl, mp (by decide), rfl, _, rfl, aW (fun h1 => ?_) (fun h1 => ?_)⟩
    ·have h1' := eqI h1
     rw [cu] at h1'
     have u1 : u % 2 = 1 := by omega
     refine ⟨_, rfl, _, rfl, _, _, rfl, rfl, .inr ⟨by omega, be.2⟩, hN _ _ ⟨rfl, t + e, ?_, by rw [u1] at m2; omega⟩⟩
     rw [Int.pow_add]; rfl
    ·have u0 : u % 2 = 0 := by
      rcases mu with h | h
      ·exact h
      ·exact absurd (decide_eq_true (by show V.int ((u : Int) % 2) = V.int 1; rw [cu, h]; rfl)) h1
     exact tnx (hN _ _ ⟨rfl, t, rfl, by rw [u0] at m2; omega⟩)
  ·rw [show decide ((0 : Int) < (u : Int)) = false from decide_eq_false (by omega)]
   refine eR ⟨_, rfl, ?_⟩
   have : u = 0 := by omega
   subst this
   rw [show t = p.toNat by omega]
   exact q
 ·rintro σ H1 Q1 Q2 h ⟨x, hx, y, z, e1, e2, b', eb, h'⟩
  exact ⟨x, hx, y, z, e1, e2, b', eb, h _ _ h'⟩
theorem dA : aP ["powers", "numbers", "total", "name", "power"] ["powers", "numbers"] (aj bq) := ⟨rfl, rfl, rfl, by decide +kernel, rfl, by decide +kernel, by decide +kernel⟩
theorem gh {f : Addr} {fd : FuncData} {k0 : Nat} (F : Fun K "product_worth" "product_worth" bq f fd) (T : Txt K mg) (Dto_the : Def P w K mg base k0 "to_the" ["base", "power"] jx) : bg P w K mg base CX0 (k0 + 1) f fd ["powers", "numbers"] (iu K) := by
 have nd : (["powers", "numbers", "total", "name", "power"] : List Str).Nodup := dA.nd
 refine F.ok dA (fun vs H Q E h => ?_) (fun cdv A outer s H vs Q E hr h => ?_)
 ·obtain ⟨a, d, ps, nums, rfl, _⟩ := h
  rfl
 obtain ⟨a, d, ps, nums, rfl, kr, ko, hn, hd, q⟩ := h
 have hu := iU hr
 obtain ⟨us, ta, ru⟩ := cF.tup kr
 have lus : us.length = ps.length := by have := ru.length; rwa [aJ, List.length_map] at this
 refine ⟨_, (@ag _ _ _ _ _ (@aB _ _ (2) _ _ _ _ nd rfl (Or.inl rfl) (@ae _ _ _ _) (by rfl) (by trivial)) (@ag _ _ _ _ _ (@cZ _ _ _ _ _ _ _ _ PassesOwn.never rfl (@dF _ _ _ _ (@pv _ 0 _ _ (by rfl) (by trivial) (by decide) (by decide))) (@cp _ _ _ _ _ _ rfl (@aN _ _ _ _ _ (@aL _ _ (3) _ nd rfl (Or.inl rfl) (by trivial)) (@aN _ _ _ _ _ (@aL _ _ (4) _ nd rfl (Or.inl rfl) (by trivial)) (@bN _) (by rfl)) (by rfl)) (by rfl) (by rfl)) (@ao _ _ _ (@aB _ _ (2) _ _ _ _ nd rfl (Or.inl rfl) (@aq _ _ _ _ _ _ _ _ bF (@pv _ 2 _ _ (by rfl) (by trivial) (by decide) (by decide)) (@av _ _ _ _ _ _ _ _ _ _ Dto_the hr rfl (@aa _ _ _ _ _ (@gQ _ _ _ _ _ _ _ _ _ hu (@pv _ 1 _ _ (by rfl) (by trivial) (by decide) (by decide)) (@pv _ 3 _ _ (by rfl) (by trivial) (by decide) (by decide)) (@ae _ _ _ _) ⟨rfl, rfl, rfl, rfl⟩) (@aa _ _ _ _ _ (@pv _ 4 _ _ (by rfl) (by trivial) (by decide) (by decide)) (@af _) (by rfl)) (by rfl)) (by decide) (by rfl) (by rfl))) (by rfl) (by trivial))) (by intro _; rfl)) (@ao _ _ _ (@aD _ _ _ _ (@pv _ 2 _ _ (by rfl) (by trivial) (by decide) (by decide)))))), ?_⟩
 refine ⟨_, rfl, a, rfl, ⟨us, ta.sq⟩, fG (xs := us) (fun i σ H' => H' = H /\ ∃ (o3 o4 : Option V), σ = [some (.ref a), some (.ref d), some (.int (pw (tm nums) (ps.take i))), o3, o4]) ⟨rfl, _, _, rfl⟩ (fun i σ H' _ p => by rw [p.1]; exact ta.sq) ?_ ?_⟩
 ·rintro i x σ H1 hx ⟨rfl, o3, o4, rfl⟩
  obtain ⟨p, b, hp, rfl, hb⟩ := fH ru hx
  have tk : ps.take (i + 1) = ps.take i ++ [p] := by rw [List.take_add_one, hp]; rfl
  have pp := ko.pos p (List.mem_of_getElem? hp)
  have pt : ∀ x ∈ ps.take i, 0 <= x.2 := fun x hx => ko.pos x (List.mem_of_mem_take hx)
  have sp : bD (ps.take i) + p.2 <= 12 := by
   have h1 : bD ps = bD (ps.take (i + 1)) + bD (ps.drop (i + 1)) := by rw [<- cm, List.take_append_drop]
   have h2 := cU (ps := ps.drop (i + 1)) fun x hx => ko.pos x (List.mem_of_mem_drop hx)
   rw [tk, cm] at h1
   have h3 := ko.sum
   have h4 : bD [p] = p.2 + 0 := rfl
   omega
  have s0 := cU pt
  obtain ⟨b1, b2⟩ := kM hn.lo hn.hi pt
  obtain ⟨c1, c2⟩ := p60 (hn.lo p.1) (hn.hi p.1) p.2.toNat
  have big : (60 : Int) ^ 6 < 2 ^ 64 := by decide
  refine ⟨b, _, rfl, SqT.of hb, rfl, _, _, rfl, _, _, rfl, rfl, ?_⟩
  refine ⟨_, rfl, _, rfl, d, rfl, .inl ⟨_, .inl hd⟩, _, rfl, _, fA.k (k := Sum.inr p.1) hd, _, rfl, tm nums p.1, p.2, by rw [nu]; rfl, hn.lo _, hn.hi _, pp, by omega, _, _, rfl, rfl, ?_, rfl, some (.str p.1), some (.int p.2), ?_⟩
  ·by_cases c : (bD (ps.take i)).toNat <= 6
   ·have := (q60 c).1; exact .inl ⟨by omega, by omega⟩
   ·have := (q60 (n := p.2.toNat) (m := 6) (by omega)).1; exact .inr ⟨by omega, by omega⟩
  ·rw [tk, eM]
   show _ = [_, _, some (V.int (pw (tm nums) (ps.take i) * (tm nums p.1 ^ p.2.toNat * 1))), _, _]
   rw [Int.mul_one]; rfl
 ·rintro σ H1 ⟨rfl, o3, o4, rfl⟩
  rw [lus, List.take_length]
  exact ⟨_, rfl, q⟩
theorem jp : aP ["s", "numbers"] ["s", "numbers"] (aj bS) := ⟨rfl, rfl, rfl, by decide +kernel, rfl, by decide +kernel, by decide +kernel⟩
theorem jV {f : Addr} {fd : FuncData} {k0 : Nat} (F : Fun K "sum_worth" "sum_worth" bS f fd) (T : Txt K mg) (Dproduct_worth : Def P w K mg base k0 "product_worth" ["powers", "numbers"] (iu K)) : bg P w K mg base CX0 (k0 + 1) f fd ["s", "numbers"] (iw K) := by
 refine F.ok jp (fun vs H Q E h => ?_) (fun cdv A outer s H vs Q E hr h => ?_)
 ·obtain ⟨v, d, m, nums, rfl, _⟩ := h
  rfl
 obtain ⟨v, d, m, nums, rfl, ⟨a, us, rfl, ta, R⟩, km, lm, hn, hd, q⟩ := h
 have lu := bn R
 refine ⟨_, (@ao _ _ _ (@aD _ _ _ _ (@aT _ _ _ _ _ _ _ _ _ (eF rfl) rfl T.sum (by decide +kernel) (@aa _ _ _ _ _ (@iz _ _ (["powers", "times"]) ([1]) _ _ _ _ _ _ _ _ _ (@dF _ _ _ _ (@pv _ 0 _ _ (by rfl) (by trivial) (by decide) (by decide))) (.of rfl) rfl (fun _ _ _ => cp rfl (@aN _ _ _ _ _ (@aL _ _ (0) _ (cX (l := ["powers", "times", "numbers"]) ((by decide +kernel)) rfl) rfl (Or.inl rfl) (by trivial)) (@aN _ _ _ _ _ (@aL _ _ (1) _ (cX (l := ["powers", "times", "numbers"]) ((by decide +kernel)) rfl) rfl (Or.inl rfl) (by trivial)) (@bN _) (by rfl)) (by rfl))) (hJ (by decide) (by decide)) (fun _ _ _ => (@cW _)) (fun _ _ _ => (@aq _ _ _ _ _ _ _ _ bF (@pv _ 1 _ _ (by rfl) (by trivial) (by decide) (by decide)) (@av _ _ _ _ _ _ _ _ _ _ Dproduct_worth hr rfl (@aa _ _ _ _ _ (@pv _ 0 _ _ (by rfl) (by trivial) (by decide) (by decide)) (@aa _ _ _ _ _ (@pv _ 2 _ _ (by rfl) (by trivial) (by decide) (by decide)) (@af _) (by rfl)) (by rfl)) (by decide) (by rfl) (by rfl)))) (by intro _; rfl)) (@af _) (by rfl)) (by decide) (by decide) (by rfl) (by rfl)))), ?_⟩
 refine ⟨_, rfl, a, rfl, ⟨us, ta.sq⟩, ?_⟩
 refine jt (xs := us) (fun i ys H' => H' = H /\ ys = ((m.take i).map fun p => p.2 * pw (tm nums) p.1).map V.int) ⟨rfl, rfl⟩ (fun i ys H' _ p => by rw [p.1]; exact ta.sq) ?_ ?_
 ·rintro i ys H1 x hx ⟨rfl, rfl⟩
  obtain ⟨p, hp, c, b, rfl, tc, kr⟩ := cg R hx
  have hi : i < us.length := (List.getElem?_eq_some_iff.mp hx).1
  obtain ⟨k1, k2, k3⟩ := km p (List.mem_of_getElem? hp)
  refine oj tc.sq ⟨_, rfl, _, rfl, _, rfl, b, d, p.1, nums, rfl, kr, k3, hn, hd, _, _, rfl, rfl, .inl ⟨by omega, k2⟩, ?_, rfl, ?_⟩
  ·simp only [List.length_map, List.length_take, sizeLine_eq]; omega
  ·rw [List.take_add_one, hp, List.map_append, List.map_append]; rfl
 ·rintro ys H1 ⟨rfl, rfl⟩ l hl
  rw [<- lu, List.take_length]
  refine ⟨l, _, rfl, SqL.of ad, ?_⟩
  have e : ∀ m : List PM, (m.map fun p => p.2 * pw (tm nums) p.1).sum = sw (pw (tm nums)) m := fun m => by
   induction m with
   | nil => rfl
   | cons p m ih => rw [List.map_cons, List.sum_cons, ih]; rfl
  rw [e]
  exact q _ (ah hl _)
end
abbrev cf : Stmt := top 4
abbrev bO : Stmt := top 6
abbrev fU : Stmt := top 7
mutual
def pre : Dv -> List Dv
 | .tup ds => .tup ds :: pres ds
 | d => [d]
def pres : List Dv -> List Dv
 | [] => []
 | d :: ds => pre d ++ pres ds
end
def nos (ds : List Dv) : List Int := ds.filterMap fun d => match d with | .int i => some i | _ => none
theorem fc (a b : List Dv) : nos (a ++ b) = nos a ++ nos b := List.filterMap_append
def ig : Dv -> List Dv
 | .tup ds => ds
 | _ => []
theorem bP : ∀ ds : List Dv, pres ds = ds.flatMap pre
 | [] => rfl
 | d :: ds => by rw [pres, bP ds, List.flatMap_cons]
theorem bG (d : Dv) : pre d = d :: pres (ig d) := by
 cases d <;> simp only [pre, ig, pres]
inductive Iv : Nat -> Dv -> Prop
 | int {n : Nat} {i : Int} : Iv (n + 1) (.int i)
 | tup {n : Nat} {ds : List Dv} : (∀ d ∈ ds, Iv n d) -> Iv (n + 1) (.tup ds)
theorem Iv.pl {n : Nat} {d : Dv} (h : Iv n d) : L2.Pl n d := by
 induction h with
 | int => exact .int
 | tup _ ih => exact .tup ih
theorem Iv.succ {n : Nat} {d : Dv} (h : Iv n d) : Iv (n + 1) d := by
 induction h with
 | int => exact .int
 | tup _ ih => exact .tup ih
theorem fh {H : Hp} : ∀ {ds : List Dv} {vs : List V}, Reps H ds vs -> Reps H ds.reverse vs.reverse
 | [], vs, h => by
  have e : vs = [] := by simpa only [Reps] using h
  subst e
  simp only [List.reverse_nil, Reps]
 | d :: ds, vs, h => by
  simp only [Reps] at h
  obtain ⟨v, r, rfl, h1, h2⟩ := h
  rw [List.reverse_cons, List.reverse_cons]
  exact Reps.append (fh h2) (dC h1)
theorem Iv.kid {n : Nat} {d : Dv} (h : Iv n d) : ∀ e ∈ ig d, Iv n e := by
 cases h with
 | int => intro e he; cases he
 | @tup n ds h =>
  intro e he
  exact (h e he).succ
theorem jG (d : Dv) : 1 <= (pre d).length := by rw [bG, List.length_cons]; omega
def fg : Sp := fun vs H Q _ => ∃ (v : V) (d : Dv) (n : Nat), vs = [v] /\ Rep H d v /\ Iv n d /\ ∀ (H' : Hp) (t : Addr) (us : List V), az H H' -> H' t = some (.tup us) -> Reps H' (ig d) us -> Q (.ref t) H'
def gl (fT : Addr) : Sp := fun vs H Q _ => ∃ (v : V) (d : Dv) (n : Nat), vs = [v, .ref fT] /\ Rep H d v /\ Iv n d /\ (pre d).length <= 5000 /\ ∀ (H' : Hp) (l : Addr) (us : List V), az H H' -> H l = none -> H' l = some (.lst us) -> Reps H' (pre d) us -> Q (.ref l) H'
def lZ : Sp := fun vs H Q _ => ∃ (v : V) (d : Dv) (n : Nat), vs = [v] /\ Rep H d v /\ Iv n d /\ (pre d).length <= 5000 /\ ∀ (H' : Hp) (l : Addr), az H H' -> H l = none -> H' l = some (.lst ((nos (pre d)).map V.int)) -> Q (.ref l) H'
theorem uX (i : Int) : isT (.int i) "tuple" = false := by show ("int" == "tuple" || "int" == "bool" && "tuple" == "int") = false; decide +kernel
theorem wk (i : Int) : isT (.int i) "int" = true := by show ("int" == "int" || "int" == "bool" && "int" == "int") = true; decide +kernel
theorem vZ (i : Int) : isT (.int i) "bool" = false := by show ("int" == "bool" || "int" == "bool" && "bool" == "int") = false; decide +kernel
theorem sG {n : Nat} : ∀ {d : Dv}, Iv n d -> ∀ e ∈ pre d, Iv n e := by
 intro d h
 induction h with
 | int => intro e he; rw [bG] at he; simp only [ig, pres, List.mem_singleton] at he; rw [he]; exact .int
 | @tup n ds h ih =>
  intro e he
  rw [bG] at he
  rcases List.mem_cons.mp he with rfl | he
  ·exact .tup h
  ·rw [show ig (Dv.tup ds) = ds from rfl, bP] at he
   obtain ⟨d, hd, hed⟩ := List.mem_flatMap.mp he
   exact (ih d hd e hed).succ
section
variable {P : Program} {w : World} {K : PySem.W.Frag} {mg : Str -> Option Value} {base : Heap}
theorem jU : aP ["value"] ["value"] (aj bO) := ⟨rfl, rfl, rfl, by decide +kernel, rfl, by decide +kernel, by decide +kernel⟩
theorem fw {f : Addr} {fd : FuncData} (F : Fun K "things_in" "things_in" bO f fd) (T : Txt K mg) : bg P w K mg base CX0 1 f fd ["value"] fg := by
 refine F.ok jU (fun vs H Q E h => ?_) (fun cdv A outer s H vs Q E hr h => ?_)
 ·obtain ⟨v, d, n, rfl, _⟩ := h
  rfl
 obtain ⟨v, d, n, rfl, R, iv, q⟩ := h
 refine ⟨_, (@ao _ _ _ (@aD _ _ _ _ (@rB _ _ _ _ _ _ _ _ (@dP _ _ _ (@aT _ _ _ _ _ _ _ _ _ cM rfl T.isinstance (by decide +kernel) (@aa _ _ _ _ _ (@pv _ 0 _ _ (by rfl) (by trivial) (by decide) (by decide)) (@aa _ _ _ _ _ (@dL _ _ (.ty "tuple") _ _ rfl T.tuple (by decide +kernel) rfl (by decide) (by decide)) (@af _) (by rfl)) (by rfl)) (by decide) (by decide) (by rfl) (by rfl)) (by intro _; rfl)) (@pv _ 0 _ _ (by rfl) (by trivial) (by decide) (by decide)) (@ba _ _ _ _ _ (@af _))))), ?_⟩
 refine ⟨_, rfl, v, _, _, _, rfl, R.ty, dD K d, _, rfl, ?_⟩
 cases iv with
 | @int _ i =>
  rw [uX]
  refine eR ⟨Nat.zero_le _, fun p hp => q _ p [] (ah hp _) ad (by simp only [ig, Reps])⟩
 | @tup _ ds h =>
  rw [gD]
  obtain ⟨a, us, rfl, ha, ru⟩ := Rep.tup_inv R
  exact fY ⟨_, rfl, q H a us (az.refl _) ha ru⟩
theorem gt : aP ["whole", "parts_of", "points", "waiting", "point"] ["whole", "parts_of"] (aj cf) := ⟨rfl, rfl, rfl, by decide +kernel, rfl, by decide +kernel, by decide +kernel⟩
theorem lH {f fT : Addr} {fd fdT : FuncData} {k0 : Nat} (F : Fun K "in_order" "in_order" cf f fd) (T : Txt K mg) (FV : bg P w K mg base CX0 k0 fT fdT ["value"] fg) (KV : PySem.W.keepIn K (.ref fT) = true) (BV : gu K fdT ["value"] []) : bg P w K mg base CX0 (k0 + 1) f fd ["whole", "parts_of"] (gl fT) := by
 have nd : (["whole", "parts_of", "points", "waiting", "point"] : List Str).Nodup := gt.nd
 refine F.ok gt (fun vs H Q E h => ?_) (fun cdv A outer s H vs Q E hr h => ?_)
 ·obtain ⟨v, d, n, rfl, _⟩ := h
  rfl
 obtain ⟨v, d, n, rfl, R, iv, k40, q⟩ := h
 refine ⟨_, (@ag _ _ _ _ _ (@aB _ _ (2) _ _ _ _ nd rfl (Or.inl rfl) (@cL _ _ _ _ (@af _)) (by rfl) (by trivial)) (@ag _ _ _ _ _ (@aB _ _ (3) _ _ _ _ nd rfl (Or.inl rfl) (@cL _ _ _ _ (@aa _ _ _ _ _ (@pv _ 0 _ _ (by rfl) (by trivial) (by decide) (by decide)) (@af _) (by rfl))) (by rfl) (by trivial)) (@ag _ _ _ _ _ (@io _ _ _ _ _ _ PassesOwn.never (@rc _ _ _ (@pv _ 3 _ _ (by rfl) (by trivial) (by decide) (by decide)) (fun _ => rfl)) (@ag _ _ _ _ _ (@aB _ _ (4) _ _ _ _ nd rfl (Or.inl rfl) (@jE _ _ _ _ _ _ _ _ _ PySem.F.plainAttrs_list PySem.F.slot_list_pop PySem.F.type_list_pop ud (@pv _ 3 _ _ (by rfl) (by trivial) (by decide) (by decide)) (by rfl) (by rfl)) (by rfl) (by trivial)) (@ag _ _ _ _ _ (@cC _ _ _ _ (@gr _ _ _ _ _ _ _ _ _ _ _ _ PySem.F.plainAttrs_list PySem.F.slot_list_append PySem.F.type_list_append ck (@pv _ 2 _ _ (by rfl) (by trivial) (by decide) (by decide)) (@aa _ _ _ _ _ (@pv _ 4 _ _ (by rfl) (by trivial) (by decide) (by decide)) (@af _) (by rfl)) (by rfl) (by rfl) (by rfl) (by rfl) (by rfl)) (by rfl)) (@ao _ _ _ (@cC _ _ _ _ (@gr _ _ _ _ _ _ _ _ _ _ _ _ PySem.F.plainAttrs_list PySem.F.slot_list_extend PySem.F.type_list_extend pc (@pv _ 3 _ _ (by rfl) (by trivial) (by decide) (by decide)) (@aa _ _ _ _ _ (@kC _ _ _ _ _ _ _ rfl T.list rfl T.reversed rfl (@qT _ _ _ _ _ _ _ _ _ _ _ _ 1 FV hr KV BV (@aa _ _ _ _ _ (@pv _ 4 _ _ (by rfl) (by trivial) (by decide) (by decide)) (@af _) (by rfl)) (by rfl) (by trivial) (by decide) (by decide) (by rfl) (by rfl)) (by rfl) (by rfl)) (@af _) (by rfl)) (by rfl) (by rfl) (by rfl) (by rfl) (by rfl)) (by rfl)))))) (@ao _ _ _ (@aD _ _ _ _ (@pv _ 2 _ _ (by rfl) (by trivial) (by decide) (by decide))))))), ?_⟩
 refine ⟨Nat.zero_le _, fun P1 hP => ?_⟩
 refine ⟨_, rfl, z1, fun W1 hW => ?_⟩
 have q1 := ah hP (.lst [])
 have q2 := ah hW (.lst [v])
 have hPW : P1 ≠ W1 := ap (ad (H := H) (a := P1) (o := .lst [])) hW
 have hWn : H W1 = none := q1.free hW
 refine ki (fun m σ H' => ∃ (o4 : Option V) (dn ws : List Dv) (us vs : List V), σ = [some v, some (.ref fT), some (.ref P1), some (.ref W1), o4] /\ az H H' /\ H' P1 = some (.lst us) /\ H' W1 = some (.lst vs) /\ Reps H' dn us /\ Reps H' ws vs /\ (∀ e ∈ dn, Iv n e) /\ (∀ e ∈ ws, Iv n e) /\ pre d = dn ++ ws.reverse.flatMap pre /\ m + dn.length = (pre d).length) (pre d).length
  ⟨_, [], [d], [], [v], rfl, q1.trans q2, q2 _ _ ad, ad, by simp only [Reps], dC ((R.mono q1).mono q2), by simp, fun e he => by rw [List.mem_singleton.mp he]; exact iv, by simp, by simp⟩ ?_ mS
 rintro m σ H1 ⟨o4, dn, ws, us, vs, rfl, s1, p1, w1, R1, R2, i1, i2, ep, em⟩
 refine ⟨_, rfl, _, .inl ⟨vs, SqL.of w1, rfl⟩, ?_⟩
 have ldn := R1.length
 have lws := R2.length
 have elen : (pre d).length = dn.length + (ws.reverse.flatMap pre).length := by rw [ep, List.length_append]
 have lpre : ∀ l : List Dv, l.length <= (l.flatMap pre).length := by
  intro l
  induction l with
  | nil => simp
  | cons y l ih => rw [List.length_cons, List.flatMap_cons, List.length_append]; have := jG y; omega
 by_cases ne : ws = []
 ·subst ne
  have e : vs = [] := by simpa only [Reps] using R2
  subst e
  refine eR ⟨_, rfl, q H1 P1 us s1 hP p1 ?_⟩
  rw [ep]
  simpa using R1
 ·obtain ⟨w0, x, rfl⟩ := sQ ne
  obtain ⟨v0, u, rfl, Ra, Ru⟩ := iR R2
  have e : (!(v0 ++ [u]).isEmpty) = true := by simp
  rw [e]
  refine fY ?_
  have ix := i2 x (by simp)
  have lv0 := Ra.length
  have l0 := lpre (w0 ++ [x]).reverse
  rw [List.length_reverse, List.length_append] at l0
  have rev : (w0 ++ [x]).reverse.flatMap pre = pre x ++ w0.reverse.flatMap pre := by rw [List.reverse_append, List.reverse_singleton, List.singleton_append, List.flatMap_cons]
  refine ⟨_, rfl, .inl ⟨rfl, _, SqL.of w1⟩, W1, _, _, rfl, rfl, w1, qx _ _, ?_⟩
  rw [List.dropLast_concat]
  have s2 := bA.upd H1 W1 (.lst v0)
  have w2 : upd H1 W1 (.lst v0) W1 = some (.lst v0) := ad
  have p2 := s2 _ _ hPW p1
  have t2 : cO H1 _ := s2.tups w1
  generalize upd H1 W1 (.lst v0) = H2 at s2 w2 p2 t2 ⊢
  refine ⟨_, rfl, .inl ⟨rfl, _, SqL.of p2⟩, _, rfl, P1, _, _, rfl, rfl, p2, by rw [sizeLine_eq]; omega, ?_⟩
  have s3 := bA.upd H2 P1 (.lst (us ++ [u]))
  have p3 : upd H2 P1 (.lst (us ++ [u])) P1 = some (.lst (us ++ [u])) := ad
  have w3 := s3 _ _ (Ne.symm hPW) w2
  have t3 : cO H1 _ := t2.trans (s3.tups p2)
  generalize upd H2 P1 (.lst (us ++ [u])) = H3 at s3 p3 w3 t3 ⊢
  refine ⟨_, rfl, .inl ⟨rfl, _, SqL.of w3⟩, rfl, _, rfl, u, x, n, rfl, bI t3 ix.pl Ru, ix, fun H4 l ks s4 h4 R4 => ⟨l, ks, rfl, SqT.of h4, fun a ha => ?_⟩⟩
  have s5 := s4.trans (ah ha (.lst ks.reverse))
  have lk := R4.length
  have lkp := lpre (ig x)
  have px : (pre x).length = 1 + ((ig x).flatMap pre).length := by rw [bG, bP, List.length_cons]; omega
  rw [rev, List.length_append] at elen
  rw [rev, List.length_append, List.length_singleton] at l0
  have l9 := lpre w0.reverse
  rw [List.length_reverse] at l9
  refine ⟨W1, a, _, _, rfl, rfl, s5 _ _ w3, ad, by rw [List.length_reverse, sizeLine_eq]; omega, ?_⟩
  have R5 : Reps (upd H4 a (.lst ks.reverse)) (ig x).reverse ks.reverse := fh (R4.mono (ah ha (.lst ks.reverse)))
  have s6 := bA.upd (upd H4 a (.lst ks.reverse)) W1 (.lst (v0 ++ ks.reverse))
  have t6 : cO H1 _ := t3.trans ((az.tups s5).trans (s6.tups (s5 _ _ w3)))
  have ik := ix.kid
  refine ⟨m - 1, ?_, _, dn ++ [x], w0 ++ (ig x).reverse, us ++ [u], v0 ++ ks.reverse, rfl, ?_, s6 _ _ hPW (s5 _ _ p3), ad, ?_, ?_, ?_, ?_, ?_, ?_⟩
  ·omega
  ·exact fun g o e => s6 g o (fun z => by rw [z, hWn] at e; cases e) (s5 _ _ (s3 g o (ap e hP) (s2 g o (fun z => by rw [z, hWn] at e; cases e) (s1 g o e))))
  ·exact Reps.append (cj (fun d hd v r => bI t6 (i1 d hd).pl r) R1) (dC (bI t6 ix.pl Ru))
  ·exact Reps.append (cj (fun d hd v r => bI t6 (i2 d (by simp [hd])).pl r) Ra) (cj (fun d hd v r => bI (s6.tups (s5 _ _ w3)) (ik d (List.mem_reverse.mp hd)).pl r) R5)
  ·intro e he
   rcases List.mem_append.mp he with h | h
   ·exact i1 e h
   ·rw [List.mem_singleton.mp h]; exact ix
  ·intro e he
   rcases List.mem_append.mp he with h | h
   ·exact i2 e (by simp [h])
   ·exact ik e (List.mem_reverse.mp h)
  ·rw [ep, rev, bG x, bP]
   simp only [List.reverse_append, List.reverse_reverse, List.flatMap_append, List.append_assoc, List.cons_append, List.nil_append]
  ·rw [List.length_append, List.length_singleton]; omega
theorem rY : aP ["value"] ["value"] (aj fU) := ⟨rfl, rfl, rfl, by decide +kernel, rfl, by decide +kernel, by decide +kernel⟩
theorem rZ {f fthings_in : Addr} {fd : FuncData} {k0 : Nat} (F : Fun K "laid" "laid" fU f fd) (T : Txt K mg) (Din_order : Def P w K mg base k0 "in_order" ["whole", "parts_of"] (gl fthings_in)) (Gthings_in : mg "things_in" = some (.ref fthings_in)) : bg P w K mg base CX0 (k0 + 1) f fd ["value"] lZ := by
 refine F.ok rY (fun vs H Q E h => ?_) (fun cdv A outer s H vs Q E hr h => ?_)
 ·obtain ⟨v, d, n, rfl, _⟩ := h
  rfl
 obtain ⟨v, d, n, rfl, R, iv, k40, q⟩ := h
 refine ⟨_, (@ao _ _ _ (@aD _ _ _ _ (@iz _ _ (["each"]) ([]) _ _ _ _ _ _ _ _ _ (@fC _ _ _ _ (@av _ _ _ _ _ _ _ _ _ _ Din_order hr rfl (@aa _ _ _ _ _ (@pv _ 0 _ _ (by rfl) (by trivial) (by decide) (by decide)) (@aa _ _ _ _ _ (@nA _ _ (.ref fthings_in) _ _ rfl Gthings_in rfl (by decide)) (@af _) (by rfl)) (by rfl)) (by decide) (by rfl) (by rfl))) (.of rfl) rfl (fun _ _ _ => aL (i := 0) (cX (l := ["each"]) ((by decide +kernel)) rfl) rfl (Or.inl rfl)) (eK (by decide)) (fun _ _ _ => sn (@fX _ _ _ _ (@dP _ _ _ (@aT _ _ _ _ _ _ _ _ _ (wn K rfl) rfl T.isinstance (by decide +kernel) (@aa _ _ _ _ _ (@pv _ 0 _ _ (by rfl) (by trivial) (by decide) (by decide)) (@aa _ _ _ _ _ (@dL _ _ (.ty "tuple") _ _ rfl T.tuple (by decide +kernel) rfl (by decide) (by decide)) (@af _) (by rfl)) (by rfl)) (by decide) (by decide) (by rfl) (by rfl)) (by intro _; rfl)))) (fun _ _ _ => (@pv _ 0 _ _ (by rfl) (by trivial) (by decide) (by decide))) (by intro _; rfl)))), ?_⟩
 refine ⟨_, rfl, v, d, n, rfl, R, iv, k40, fun H1 l us s1 hl h1 R1 => ?_⟩
 have lu := R1.length
 refine ⟨l, rfl, ⟨us, SqL.of h1⟩, ?_⟩
 refine nH (xs := us) (fun i ys H' => H' = H1 /\ ys = (nos ((pre d).take i)).map V.int) ⟨rfl, rfl⟩ (fun i ys H' _ p => by rw [p.1]; exact SqL.of h1) ?_ ?_
 ·rintro i ys H2 x hx ⟨rfl, rfl⟩
  obtain ⟨e, he, Re⟩ := R1.get hx
  have hi : i < us.length := (List.getElem?_eq_some_iff.mp hx).1
  have ie := sG iv e (List.mem_of_getElem? he)
  have tk : (pre d).take (i + 1) = (pre d).take i ++ [e] := by rw [List.take_add_one, he]; rfl
  have lt : (nos ((pre d).take i)).length <= i := by
   have h1 := List.length_filterMap_le (fun d => match d with | Dv.int i => some i | _ => none) ((pre d).take i)
   rw [List.length_take] at h1
   exact Nat.le_trans h1 (Nat.min_le_left _ _)
  cases ie with
  | @int _ j =>
   obtain rfl : x = .int j := by simpa only [Rep] using Re
   refine ⟨_, rfl, _, _, _, _, rfl, cY.int j, dD K (.int j), _, rfl, ?_⟩
   rw [uX]
   refine fY ⟨_, rfl, ?_, rfl, ?_⟩
   ·rw [List.length_map, sizeLine_eq]; omega
   ·rw [tk, fc, List.map_append]; rfl
  | @tup _ ds h =>
   obtain ⟨a, ws, rfl, ha, ra⟩ := Rep.tup_inv Re
   refine ⟨_, rfl, _, _, _, _, rfl, cY.tup ha, dD K (.tup ds), _, rfl, ?_⟩
   rw [gD]
   refine eR ⟨rfl, ?_⟩
   rw [tk, fc, List.map_append]
   exact (List.append_nil _).symm
 ·rintro ys H2 ⟨rfl, rfl⟩ r hr'
  have s2 := ah hr' (.lst ((nos ((pre d).take us.length)).map V.int))
  have e : H r = none := s1.free hr'
  refine q _ r (s1.trans s2) e ?_
  rw [ad, lu, List.take_length]
end
abbrev gi : Stmt := top 26
abbrev eO : Stmt := top 27
def St1 (H : Hp) (a : Addr) : Prop := ∃ n : Int, H a = some (.lst [.int n])
def bu (a b : Addr) (H H' : Hp) : Prop := ∀ c o, c ≠ a -> c ≠ b -> H c = some o -> H' c = some o
theorem bu.trans {a b : Addr} {H H1 H2 : Hp} (s : bu a b H H1) (t : bu a b H1 H2) : bu a b H H2 := fun c o n m e => t c o n m (s c o n m e)
theorem bu.of {a b : Addr} {H H' : Hp} (s : az H H') : bu a b H H' := fun c o _ _ e => s c o e
theorem bu.ofA {a b : Addr} {H H' : Hp} (s : bA a H H') : bu a b H H' := fun c o n _ e => s c o n e
theorem bu.ofB {a b : Addr} {H H' : Hp} (s : bA b H H') : bu a b H H' := fun c o _ n e => s c o n e
theorem bu.tups {a b : Addr} {H H' : Hp} (s : bu a b H H') {xs ys : List V} (ha : H a = some (.lst xs)) (hb : H b = some (.lst ys)) : cO H H' := fun c zs e => s c _ (gU e ha (fun z => nomatch z)) (gU e hb (fun z => nomatch z)) e
inductive Vl (nums : List Pr) : Kd -> Dv -> Prop
 | whole {i : Int} : Vl nums .whole (.int i)
 | place {c : Int} {ps : List Pr} {i : Int} : Vl nums (.place c ps) (.int i)
 | row {c : Int} {ps : List Pr} {k : Kd} {ds : List Dv} : (ds.length : Int) = amt nums c ps -> (∀ d ∈ ds, Vl nums k d) -> Vl nums (.row c ps k) (.tup ds)
 | pair {i j : Kd} {x y : Dv} : Vl nums i x -> Vl nums j y -> Vl nums (.pair i j) (.tup [x, y])
theorem Iv.up {n m : Nat} {d : Dv} (h : Iv n d) (l : n <= m) : Iv m d := by
 induction m with
 | zero => rw [Nat.le_zero.mp l] at h; exact h
 | succ m ih =>
  by_cases e : n = m + 1
  ·rw [<- e]; exact h
  ·exact (ih (by omega)).succ
theorem Vl.iv {nums : List Pr} {k : Kd} {d : Dv} (h : Vl nums k d) : Iv k.size d := by
 induction h with
 | whole => exact .int
 | place => exact .int
 | @row c ps k ds _ _ ih => exact .tup (n := k.size) ih
 | @pair i j x y _ _ h1 h2 =>
  refine .tup (n := i.size + j.size) fun d hd => ?_
  rcases List.mem_cons.mp hd with rfl | hd
  ·exact h1.up (by omega)
  ·rw [List.mem_singleton.mp hd]; exact h2.up (by omega)
theorem dJ (ds : List Dv) : nos (pre (.tup ds)) = ds.flatMap fun d => nos (pre d) := by
 rw [bG]
 show nos (pres ds) = _
 induction ds with
 | nil => rfl
 | cons d ds ih => rw [pres, fc, ih, List.flatMap_cons]
theorem Vl.len {nums : List Pr} (hn : NB nums) {k : Kd} {d : Dv} (h : Vl nums k d) : el k -> ((nos (pre d)).length : Int) = cnt nums k /\ ((pre d).length : Int) + 1 <= 2 * rws nums k := by
 induction h with
 | whole => intro _; exact ⟨rfl, by show (1 : Int) + 1 <= 2 * 1; decide⟩
 | place => intro _; exact ⟨rfl, by show (1 : Int) + 1 <= 2 * 1; decide⟩
 | @row c ps k ds hl hv ih =>
  intro hg
  rw [dJ, bG]
  show _ = amt nums c ps * cnt nums k /\ (((pres ds).length + 1 : Nat) : Int) + 1 <= 2 * (1 + amt nums c ps * rws nums k)
  rw [<- hl]
  clear hl
  rw [bP]
  have key : (((ds.flatMap fun d => nos (pre d)).length : Nat) : Int) = (ds.length : Int) * cnt nums k /\ (((ds.flatMap pre).length : Nat) : Int) <= 2 * ((ds.length : Int) * rws nums k) := by
   induction ds with
   | nil => simp
   | cons d ds ih2 =>
    obtain ⟨a1, a2⟩ := ih d List.mem_cons_self hg.2
    obtain ⟨b1, b2⟩ := ih2 (fun e he => hv e (List.mem_cons_of_mem _ he)) (fun e he => ih e (List.mem_cons_of_mem _ he))
    rw [List.flatMap_cons, List.flatMap_cons, List.length_append, List.length_append, List.length_cons]
    have e1 : ((ds.length + 1 : Nat) : Int) * cnt nums k = (ds.length : Int) * cnt nums k + cnt nums k := by rw [Int.natCast_add, Int.add_mul]; simp
    have e2 : ((ds.length + 1 : Nat) : Int) * rws nums k = (ds.length : Int) * rws nums k + rws nums k := by rw [Int.natCast_add, Int.add_mul]; simp
    rw [e1, e2]
    omega
  omega
 | @pair i j x y _ _ h1 h2 =>
  intro hg
  obtain ⟨a1, a2⟩ := h1 hg.1
  obtain ⟨b1, b2⟩ := h2 hg.2
  rw [dJ, bG]
  show _ = cnt nums i + cnt nums j /\ (((pres [x, y]).length + 1 : Nat) : Int) + 1 <= 2 * (rws nums i + rws nums j)
  rw [bP]
  simp only [List.flatMap_cons, List.flatMap_nil, List.append_nil, List.length_append]
  omega
def lQ : Sp := fun vs H Q _ => ∃ (a : Addr) (m : Int), vs = [.ref a, .int m] /\ St1 H a /\ 0 < m /\ ∀ (H' : Hp) (x : Int), bA a H H' -> St1 H' a -> 0 <= x -> x < m -> Q (.int x) H'
def fI (n : Nat) : Sp := fun vs H Q _ => ∃ (v : V) (d a b : Addr) (k : Kd) (nums : List Pr) (is : List Int), vs = [v, .ref d, .ref a, .ref b] /\ Rep H k.dv v /\ H d = some (.dK (dk nums)) /\ NB nums /\ a ≠ b /\ St1 H a /\ H b = some (.lst (is.map V.int)) /\ k.size <= n /\ el k /\ rws nums k <= 600 /\ (is.length : Int) + cnt nums k <= 600 /\
 ∀ (H' : Hp) (w : V) (x : Dv), bu a b H H' -> St1 H' a -> H' b = some (.lst ((is ++ nos (pre x)).map V.int)) -> Rep H' x w -> Vl nums k x -> Q w H'
section
variable {P : Program} {w : World} {K : PySem.W.Frag} {mg : Str -> Option Value} {base : Heap}
theorem mV : aP ["_law_state", "_law_many_here"] ["_law_state", "_law_many_here"] (aj gi) := ⟨rfl, rfl, rfl, by decide +kernel, rfl, by decide +kernel, by decide +kernel⟩
theorem sL {f : Addr} {fd : FuncData} (F : Fun K "_law_next" "_law_next" gi f fd) (T : Txt K mg) : bg P w K mg base CX0 1 f fd ["_law_state", "_law_many_here"] lQ := by
 have nd : (["_law_state", "_law_many_here"] : List Str).Nodup := mV.nd
 refine F.ok mV (fun vs H Q E h => ?_) (fun cdv A outer s H vs Q E hr h => ?_)
 ·obtain ⟨a, m, rfl, _⟩ := h
  rfl
 obtain ⟨a, m, rfl, ⟨n, ha⟩, m0, q⟩ := h
 refine ⟨_, (@ag _ _ _ _ _ (@tR _ _ _ _ _ _ (@aq _ _ _ _ _ _ _ _ bm (@aq _ _ _ _ _ _ _ _ bo (@aq _ _ _ _ _ _ _ _ bF (@aG _ _ _ _ _ _ _ cP (@pv _ 0 _ _ (by rfl) (by trivial) (by decide) (by decide)) (@ae _ _ _ _) (fun _ _ => rfl)) (@ae _ _ _ _)) (@ae _ _ _ _)) (@aq _ _ _ _ _ _ _ _ rg (@aq _ _ _ _ _ _ _ _ fW (@ae _ _ _ _) (@ae _ _ _ _)) (@ae _ _ _ _))) (@tS _ _ _ _ _ _ _ (@pv _ 0 _ _ (by rfl) (by trivial) (by decide) (by decide)) (@ae _ _ _ _) pS (by intro _; rfl)) (by rfl) (by rfl) (by rfl)) (@ao _ _ _ (@aD _ _ _ _ (@aq _ _ _ _ _ _ _ _ bm (@aq _ _ _ _ _ _ _ _ br (@aG _ _ _ _ _ _ _ cP (@pv _ 0 _ _ (by rfl) (by trivial) (by decide) (by decide)) (@ae _ _ _ _) (fun _ _ => rfl)) (@ae _ _ _ _)) (@pv _ 1 _ _ (by rfl) (by trivial) (by decide) (by decide)))))), ?_⟩
 refine ⟨_, rfl, a, _, 0, .int n, rfl, rfl, SqL.of ha, ai (j := 0) rfl, _, _, rfl, rfl, .inr ⟨by decide, by decide⟩, _, _, rfl, rfl, _, _, rfl, rfl, ⟨by decide, by decide, by decide⟩, _, _, rfl, rfl, _, _, rfl, rfl, mp (by decide), _, rfl, a, _, 0, 0, rfl, rfl, ha, rfl, ?_⟩
 exact ⟨_, rfl, a, _, 0, _, rfl, rfl, SqL.of ad, ai (j := 0) rfl, _, _, rfl, rfl, ⟨by decide, by decide⟩, _, rfl, _, _, rfl, rfl, m0, q _ _ (bA.upd _ _ _) ⟨_, ad⟩ (md _ _ m0).1 (md _ _ m0).2⟩
end
section
variable {P : Program} {w : World} {K : PySem.W.Frag} {mg : Str -> Option Value} {base : Heap}
theorem tE {nums : List Pr} (hn : NB nums) {c : Int} {ps : List Pr} {j : Kd} (hg : el (.row c ps j)) (h1 : 1 <= amt nums c ps) : rws nums j <= rws nums (.row c ps j) /\ amt nums c ps <= rws nums (.row c ps j) := by
 obtain ⟨p1, _, _⟩ := bK hn hg.2
 show rws nums j <= 1 + amt nums c ps * rws nums j /\ amt nums c ps <= 1 + amt nums c ps * rws nums j
 have a1 : 1 * rws nums j <= amt nums c ps * rws nums j := Int.mul_le_mul_of_nonneg_right h1 (by omega)
 have a2 : amt nums c ps * 1 <= amt nums c ps * rws nums j := Int.mul_le_mul_of_nonneg_left p1 (by omega)
 omega
theorem qz {nums : List Pr} (hn : NB nums) {c : Int} {ps : List Pr} {j : Kd} (hg : el (.row c ps j)) : amt nums c ps <= rws nums (.row c ps j) := by
 obtain ⟨p1, _, _⟩ := bK hn hg.2
 have h0 := (bZ hn hg.1).1
 show amt nums c ps <= 1 + amt nums c ps * rws nums j
 have a2 : amt nums c ps * 1 <= amt nums c ps * rws nums j := Int.mul_le_mul_of_nonneg_left p1 h0
 omega
theorem lv : aP ["_law_kind_here", "_law_numbers_here", "_law_state", "_law_flat", "_law_one"] ["_law_kind_here", "_law_numbers_here", "_law_state", "_law_flat"] (aj eO) := ⟨rfl, rfl, rfl, by decide +kernel, rfl, by decide +kernel, by decide +kernel⟩
theorem qV {f : Addr} {fd : FuncData} {k0 n : Nat} (F : Fun K "_law_value" "_law_value" eO f fd) (T : Txt K mg) (D_law_worth : Def P w K mg base k0 "_law_worth" ["_law_length_here", "_law_numbers_here"] cD) (D_law_next : Def P w K mg base k0 "_law_next" ["_law_state", "_law_many_here"] lQ) (D_law_value : Def P w K mg base k0 "_law_value" ["_law_kind_here", "_law_numbers_here", "_law_state", "_law_flat"] (fI n)) :
  bg P w K mg base CX0 (k0 + 1) f fd ["_law_kind_here", "_law_numbers_here", "_law_state", "_law_flat"] (fI (n + 1)) := by
 have nd : (["_law_kind_here", "_law_numbers_here", "_law_state", "_law_flat", "_law_one"] : List Str).Nodup := lv.nd
 refine F.ok lv (fun vs H Q E h => ?_) (fun cdv A outer s H vs Q E hr h => ?_)
 ·obtain ⟨v, d, a, b, k, nums, is, rfl, _⟩ := h
  rfl
 obtain ⟨v, d, a, b, k, nums, is, rfl, R, hd, hn, ab, st, hb, kn, kg, r600, i600, q⟩ := h
 obtain ⟨t, vs, rfl, ht, hv⟩ := Kd.inv R
 refine ⟨_, (@ag _ _ _ _ _ (@bv _ _ _ _ _ _ _ _ (@aI _ _ _ _ _ _ _ _ bM (@aG _ _ _ _ _ _ _ aE (@pv _ 0 _ _ (by rfl) (by trivial) (by decide) (by decide)) (@ae _ _ _ _) (fun _ _ => rfl)) (@aM _ _ _ _) (aQ _)) (@ag _ _ _ _ _ (@cC _ _ _ _ (@gr _ _ _ _ _ _ _ _ _ _ _ _ PySem.F.plainAttrs_list PySem.F.slot_list_append PySem.F.type_list_append ck (@pv _ 3 _ _ (by rfl) (by trivial) (by decide) (by decide)) (@aa _ _ _ _ _ (@aG _ _ _ _ _ _ _ cP (@cL _ _ _ _ (@aa _ _ _ _ _ (@av _ _ _ _ _ _ _ _ _ _ D_law_next hr rfl (@aa _ _ _ _ _ (@pv _ 2 _ _ (by rfl) (by trivial) (by decide) (by decide)) (@aa _ _ _ _ _ (@ae _ _ _ _) (@af _) (by rfl)) (by rfl)) (by decide) (by rfl) (by rfl)) (@aa _ _ _ _ _ (@av _ _ _ _ _ _ _ _ _ _ D_law_next hr rfl (@aa _ _ _ _ _ (@pv _ 2 _ _ (by rfl) (by trivial) (by decide) (by decide)) (@aa _ _ _ _ _ (@aq _ _ _ _ _ _ _ _ fW (@ae _ _ _ _) (@ae _ _ _ _)) (@af _) (by rfl)) (by rfl)) (by decide) (by rfl) (by rfl)) (@aa _ _ _ _ _ (@aq _ _ _ _ _ _ _ _ rg (@aq _ _ _ _ _ _ _ _ fW (@ae _ _ _ _) (@ae _ _ _ _)) (@ae _ _ _ _)) (@af _) (by rfl)) (by rfl)) (by rfl))) (@av _ _ _ _ _ _ _ _ _ _ D_law_next hr rfl (@aa _ _ _ _ _ (@pv _ 2 _ _ (by rfl) (by trivial) (by decide) (by decide)) (@aa _ _ _ _ _ (@ae _ _ _ _) (@af _) (by rfl)) (by rfl)) (by decide) (by rfl) (by rfl)) (fun _ _ => rfl)) (@af _) (by rfl)) (by rfl) (by rfl) (by rfl) (by rfl) (by rfl)) (by rfl)) (@ao _ _ _ (@aD _ _ _ _ (@aG _ _ _ _ _ _ _ cP (@pv _ 3 _ _ (by rfl) (by trivial) (by decide) (by decide)) (@tD _ _ _ _ _ _ qS (@ae _ _ _ _)) (fun _ _ => rfl))))) (@aS _)) (@ag _ _ _ _ _ (@bv _ _ _ _ _ _ _ _ (@aI _ _ _ _ _ _ _ _ bM (@aG _ _ _ _ _ _ _ aE (@pv _ 0 _ _ (by rfl) (by trivial) (by decide) (by decide)) (@ae _ _ _ _) (fun _ _ => rfl)) (@aM _ _ _ _) (aQ _)) (@ag _ _ _ _ _ (@cC _ _ _ _ (@gr _ _ _ _ _ _ _ _ _ _ _ _ PySem.F.plainAttrs_list PySem.F.slot_list_append PySem.F.type_list_append ck (@pv _ 3 _ _ (by rfl) (by trivial) (by decide) (by decide)) (@aa _ _ _ _ _ (@av _ _ _ _ _ _ _ _ _ _ D_law_next hr rfl (@aa _ _ _ _ _ (@pv _ 2 _ _ (by rfl) (by trivial) (by decide) (by decide)) (@aa _ _ _ _ _ (@av _ _ _ _ _ _ _ _ _ _ D_law_worth hr rfl (@aa _ _ _ _ _ (@aG _ _ _ _ _ _ _ aE (@pv _ 0 _ _ (by rfl) (by trivial) (by decide) (by decide)) (@ae _ _ _ _) (fun _ _ => rfl)) (@aa _ _ _ _ _ (@pv _ 1 _ _ (by rfl) (by trivial) (by decide) (by decide)) (@af _) (by rfl)) (by rfl)) (by decide) (by rfl) (by rfl)) (@af _) (by rfl)) (by rfl)) (by decide) (by rfl) (by rfl)) (@af _) (by rfl)) (by rfl) (by rfl) (by rfl) (by rfl) (by rfl)) (by rfl)) (@ao _ _ _ (@aD _ _ _ _ (@aG _ _ _ _ _ _ _ cP (@pv _ 3 _ _ (by rfl) (by trivial) (by decide) (by decide)) (@tD _ _ _ _ _ _ qS (@ae _ _ _ _)) (fun _ _ => rfl))))) (@aS _)) (@ag _ _ _ _ _ (@bv _ _ _ _ _ _ _ _ (@aI _ _ _ _ _ _ _ _ bM (@aG _ _ _ _ _ _ _ aE (@pv _ 0 _ _ (by rfl) (by trivial) (by decide) (by decide)) (@ae _ _ _ _) (fun _ _ => rfl)) (@aM _ _ _ _) (aQ _)) (@ag _ _ _ _ _ (@aB _ _ (4) _ _ _ _ nd rfl (Or.inl rfl) (@av _ _ _ _ _ _ _ _ _ _ D_law_value hr rfl (@aa _ _ _ _ _ (@aG _ _ _ _ _ _ _ aE (@pv _ 0 _ _ (by rfl) (by trivial) (by decide) (by decide)) (@ae _ _ _ _) (fun _ _ => rfl)) (@aa _ _ _ _ _ (@pv _ 1 _ _ (by rfl) (by trivial) (by decide) (by decide)) (@aa _ _ _ _ _ (@pv _ 2 _ _ (by rfl) (by trivial) (by decide) (by decide)) (@aa _ _ _ _ _ (@pv _ 3 _ _ (by rfl) (by trivial) (by decide) (by decide)) (@af _) (by rfl)) (by rfl)) (by rfl)) (by rfl)) (by decide) (by rfl) (by rfl)) (by rfl) (by trivial)) (@ao _ _ _ (@aD _ _ _ _ (@ba _ _ _ _ _ (@aa _ _ _ _ _ (@pv _ 4 _ _ (by rfl) (by trivial) (by decide) (by decide)) (@aa _ _ _ _ _ (@av _ _ _ _ _ _ _ _ _ _ D_law_value hr rfl (@aa _ _ _ _ _ (@aG _ _ _ _ _ _ _ aE (@pv _ 0 _ _ (by rfl) (by trivial) (by decide) (by decide)) (@ae _ _ _ _) (fun _ _ => rfl)) (@aa _ _ _ _ _ (@pv _ 1 _ _ (by rfl) (by trivial) (by decide) (by decide)) (@aa _ _ _ _ _ (@pv _ 2 _ _ (by rfl) (by trivial) (by decide) (by decide)) (@aa _ _ _ _ _ (@pv _ 3 _ _ (by rfl) (by trivial) (by decide) (by decide)) (@af _) (by rfl)) (by rfl)) (by rfl)) (by rfl)) (by decide) (by rfl) (by rfl)) (@af _) (by rfl)) (by rfl)))))) (@aS _)) (@ao _ _ _ (@aD _ _ _ _ (@bp _ _ _ _ _ _ _ _ _ bj rfl T.tuple (by decide +kernel) (@aa _ _ _ _ _ (@iz _ _ (["_law_k"]) ([0, 1, 2, 3]) _ _ _ _ _ _ _ _ _ (@gk _ _ _ _ _ _ rfl T.range (@aa _ _ _ _ _ (@av _ _ _ _ _ _ _ _ _ _ D_law_worth hr rfl (@aa _ _ _ _ _ (@aG _ _ _ _ _ _ _ aE (@pv _ 0 _ _ (by rfl) (by trivial) (by decide) (by decide)) (@ae _ _ _ _) (fun _ _ => rfl)) (@aa _ _ _ _ _ (@pv _ 1 _ _ (by rfl) (by trivial) (by decide) (by decide)) (@af _) (by rfl)) (by rfl)) (by decide) (by rfl) (by rfl)) (@af _) (by rfl)) (by rfl)) (.of rfl) rfl (fun _ _ _ => aL (i := 0) (cX (l := ["_law_k", "_law_kind_here", "_law_numbers_here", "_law_state", "_law_flat"]) ((by decide +kernel)) rfl) rfl (Or.inl rfl)) (eK (by decide)) (fun _ _ _ => (@cW _)) (fun _ _ _ => (@av _ _ _ _ _ _ _ _ _ _ D_law_value hr rfl (@aa _ _ _ _ _ (@aG _ _ _ _ _ _ _ (mW K rfl) (@pv _ 1 _ _ (by rfl) (by trivial) (by decide) (by decide)) (@ae _ _ _ _) (fun _ _ => rfl)) (@aa _ _ _ _ _ (@pv _ 2 _ _ (by rfl) (by trivial) (by decide) (by decide)) (@aa _ _ _ _ _ (@pv _ 3 _ _ (by rfl) (by trivial) (by decide) (by decide)) (@aa _ _ _ _ _ (@pv _ 4 _ _ (by rfl) (by trivial) (by decide) (by decide)) (@af _) (by rfl)) (by rfl)) (by rfl)) (by rfl)) (by decide) (by rfl) (by rfl))) (by intro _; rfl)) (@af _) (by rfl)) (by decide) (by decide) (by rfl) (by rfl))))))), ?_⟩
 obtain ⟨p1, c0, c1⟩ := bK hn kg
 have db : d ≠ b := fun e => by rw [e, hb] at hd; cases hd
 have da : d ≠ a := fun e => by obtain ⟨_, h⟩ := st; rw [e, h] at hd; cases hd
 have leaf : ∀ (H1 : Hp) (y : Int), bu a b H H1 -> St1 H1 a -> H1 b = some (.lst (is.map V.int)) -> Vl nums k (.int y) -> Q (.int y) (upd H1 b (.lst (is.map V.int ++ [.int y]))) := fun H1 y s1 st1 hb1 vl => by
  refine q _ _ (.int y) (s1.trans (.ofB (bA.upd _ _ _))) (let ⟨m, e⟩ := st1; ⟨m, by rw [au ab]; exact e⟩) ?_ (by simp only [Rep]) vl
  rw [ad, List.map_append]; rfl
 cases k with
 | whole =>
  subst hv
  refine ⟨_, rfl, t, _, 0, .str "whole", rfl, rfl, SqT.of ht, ai (j := 0) rfl, rfl, _, rfl, aW (fun _ => ?_) (fun h => absurd (by decide +kernel) h)⟩
  have l1 : is.length + 1 <= 600 := by have : (is.length : Int) + 1 <= 600 := i600; omega
  refine ⟨_, rfl, .inl ⟨rfl, _, SqL.of hb⟩, _, rfl, a, 10, rfl, st, by decide, fun H1 x1 s1 st1 x0 x10 => ?_⟩
  refine ⟨_, rfl, _, _, rfl, rfl, ⟨by decide, by decide, by decide⟩, a, 10 ^ 12, rfl, st1, by decide, fun H2 x2 s2 st2 x20 x21 => ?_⟩
  refine ⟨_, _, rfl, rfl, ⟨by decide, by decide, by decide⟩, _, _, rfl, rfl, z3, fun L hL => ?_⟩
  have q3 := ah hL (.lst [V.int x1, .int x2, .int (10 ^ 12 - 1)])
  have La : L ≠ a := fun e => by obtain ⟨_, h⟩ := st2; rw [e, h] at hL; cases hL
  refine ⟨_, rfl, a, 3, rfl, (let ⟨m, e⟩ := st2; ⟨m, q3 _ _ e⟩), by decide, fun H4 x4 s4 st4 x40 x41 => ?_⟩
  have hb4 : H4 b = some (.lst (is.map V.int)) := s4 _ _ (Ne.symm ab) (q3 _ _ (s2 _ _ (Ne.symm ab) (s1 _ _ (Ne.symm ab) hb)))
  have s04 : bu a b H H4 := (bu.ofA s1).trans ((bu.ofA s2).trans ((bu.of q3).trans (.ofA s4)))
  have c4 : x4 = 0 \/ x4 = 1 \/ x4 = 2 := by omega
  have szb : (is.map V.int).length < sizeLine := by rw [List.length_map, sizeLine_eq]; omega
  rcases c4 with rfl | rfl | rfl
  ·exact ⟨L, _, _, .int x1, rfl, rfl, SqL.of (s4 _ _ La ad), ai (j := 0) rfl, b, _, _, rfl, rfl, hb4, szb, _, rfl, _, rfl, b, _, _, .int x1, rfl, rfl, SqL.of ad, fx _ _, leaf H4 x1 s04 st4 hb4 .whole⟩
  ·exact ⟨L, _, _, .int x2, rfl, rfl, SqL.of (s4 _ _ La ad), ai (j := 1) rfl, b, _, _, rfl, rfl, hb4, szb, _, rfl, _, rfl, b, _, _, .int x2, rfl, rfl, SqL.of ad, fx _ _, leaf H4 x2 s04 st4 hb4 .whole⟩
  ·exact ⟨L, _, _, .int (10 ^ 12 - 1), rfl, rfl, SqL.of (s4 _ _ La ad), ai (j := 2) rfl, b, _, _, rfl, rfl, hb4, szb, _, rfl, _, rfl, b, _, _, .int (10 ^ 12 - 1), rfl, rfl, SqL.of ad, fx _ _, leaf H4 (10 ^ 12 - 1) s04 st4 hb4 .whole⟩
 | place c ps =>
  obtain ⟨l, rfl, Rl⟩ := hv
  have l1 : is.length + 1 <= 600 := by have : (is.length : Int) + 1 <= 600 := i600; omega
  have am : 0 < amt nums c ps := by
   have h1 := jM (num := tm nums) (B := 3) (by decide) (fun x => ⟨hn.lo x, hn.hi x⟩) (ps := ps) fun p hp => ⟨by have := (kg.1.nm p hp).2; omega, (kg.1.nm p hp).2.2⟩
   have h2 := kg.2
   unfold amt
   omega
  refine ⟨_, rfl, t, _, 0, .str "place", rfl, rfl, SqT.of ht, ai (j := 0) rfl, rfl, _, rfl, aW (fun h => absurd h (by decide +kernel)) (fun _ => ?_)⟩
  refine ⟨_, rfl, t, _, 0, .str "place", rfl, rfl, SqT.of ht, ai (j := 0) rfl, rfl, _, rfl, aW (fun _ => ?_) (fun h => absurd (by decide +kernel) h)⟩
  refine ⟨_, rfl, .inl ⟨rfl, _, SqL.of hb⟩, _, rfl, _, rfl, t, _, 1, l, rfl, rfl, SqT.of ht, ai (j := 1) rfl, _, rfl, l, d, c, ps, nums, rfl, Rl, kg.1, hn, hd, fun H1 s1 => ?_⟩
  refine ⟨a, amt nums c ps, rfl, (let ⟨m, e⟩ := st; ⟨m, s1 _ _ e⟩), am, fun H2 y s2 st2 y0 y1 => ?_⟩
  have hb2 : H2 b = some (.lst (is.map V.int)) := s2 _ _ (Ne.symm ab) (s1 _ _ hb)
  exact ⟨b, _, _, rfl, rfl, hb2, by rw [List.length_map, sizeLine_eq]; omega, _, rfl, _, rfl, b, _, _, .int y, rfl, rfl, SqL.of ad, fx _ _, leaf H2 y ((bu.of s1).trans (.ofA s2)) st2 hb2 .place⟩
 | row c ps j =>
  obtain ⟨l, u, rfl, Rl, Ru⟩ := hv
  have jn : j.size <= n := by have : j.size + 1 <= n + 1 := kn; omega
  obtain ⟨am0, am1⟩ := bZ hn kg.1
  obtain ⟨pj, cj0, cj1⟩ := bK hn kg.2
  have al := qz hn kg
  refine ⟨_, rfl, t, _, 0, .str "row", rfl, rfl, SqT.of ht, ai (j := 0) rfl, rfl, _, rfl, aW (fun h => absurd h (by decide +kernel)) (fun _ => ?_)⟩
  refine ⟨_, rfl, t, _, 0, .str "row", rfl, rfl, SqT.of ht, ai (j := 0) rfl, rfl, _, rfl, aW (fun h => absurd h (by decide +kernel)) (fun _ => ?_)⟩
  refine ⟨_, rfl, t, _, 0, .str "row", rfl, rfl, SqT.of ht, ai (j := 0) rfl, rfl, _, rfl, aW (fun h => absurd h (by decide +kernel)) (fun _ => ?_)⟩
  refine ⟨_, rfl, t, _, 1, l, rfl, rfl, SqT.of ht, ai (j := 1) rfl, _, rfl, l, d, c, ps, nums, rfl, Rl, kg.1, hn, hd, fun H0 s0 => ?_⟩
  have st0 : St1 H0 a := let ⟨m, e⟩ := st; ⟨m, s0 _ _ e⟩
  refine ⟨_, rfl, by omega, by omega, kN (n := (amt nums c ps).toNat) (fun i ys H' => ∃ (ds : List Dv) (ns : List Int), bu a b H0 H' /\ St1 H' a /\ H' b = some (.lst ((is ++ ns).map V.int)) /\ ns = (ds.flatMap fun d => nos (pre d)) /\ (ns.length : Int) = i * cnt nums j /\ Reps H' ds ys /\ ds.length = i /\ ∀ x ∈ ds, Vl nums j x) ⟨[], [], fun c o _ _ e => e, st0, by rw [List.append_nil]; exact s0 _ _ hb, rfl, by simp, by simp only [Reps], rfl, by simp⟩ ?_ ?_⟩
  ·rintro i ys H1 hi ⟨ds, ns, s1, st1, hb1, en, ln, Rs, ld, hds⟩
   have t1 : cO H0 H1 := by obtain ⟨m0, e0⟩ := st0; exact s1.tups e0 (s0 _ _ hb)
   have t01 : cO H H1 := (az.tups s0).trans t1
   have ly := Rs.length
   have i1 : (1 : Int) <= amt nums c ps := by omega
   have inn := tE hn kg i1
   have room : (((is ++ ns).length : Nat) : Int) + cnt nums j <= 600 := by
    have h1 : (i : Int) * cnt nums j + cnt nums j <= amt nums c ps * cnt nums j := by
     have : ((i : Int) + 1) * cnt nums j <= amt nums c ps * cnt nums j := Int.mul_le_mul_of_nonneg_right (by omega) cj0
     rw [Int.add_mul, Int.one_mul] at this; exact this
    have h2 : (is.length : Int) + amt nums c ps * cnt nums j <= 600 := i600
    rw [List.length_append]; omega
   refine fV ⟨_, rfl, t, _, 2, u, rfl, rfl, SqT.of (t01 _ _ ht), ai (j := 2) rfl, _, rfl, _, rfl, _, rfl, u, d, a, b, j, nums, is ++ ns, rfl, Kd.tupS t01 Ru, s1 _ _ da db (s0 _ _ hd), hn, ab, st1, hb1, jn, kg.2, by omega, room, fun H2 w1 x s2 st2 hb2 R2 v2 => ⟨by rw [ly, sizeLine_eq]; omega, ds ++ [x], ns ++ nos (pre x), s1.trans s2, st2, ?_, ?_, ?_, ?_, by simp [ld], fun y hy => ?_⟩⟩
   ·rw [<- List.append_assoc]; exact hb2
   ·rw [en, List.flatMap_append]; simp
   ·have := (v2.len hn kg.2).1
    rw [List.length_append, Int.natCast_add, ln, this, Int.natCast_add, Int.add_mul]; simp
   ·have t2 : cO H1 H2 := by obtain ⟨m0, e0⟩ := st1; exact s2.tups e0 hb1
    exact Reps.append (cj (fun d' hd' v r => bI t2 (hds d' hd').iv.pl r) Rs) (dC R2)
   ·rcases List.mem_append.mp hy with h | h
    ·exact hds y h
    ·rw [List.mem_singleton.mp h]; exact v2
  ·rintro ys H1 ⟨ds, ns, s1, st1, hb1, en, ln, Rs, ld, hds⟩ g hg
   have q2 := ah hg (.lst ys)
   refine ⟨g, ys, rfl, .inl ⟨SqL.of ad, fun p hp => ?_⟩⟩
   have q3 := ah hp (.tup ys)
   refine q _ (.ref p) (.tup ds) ((bu.of s0).trans (s1.trans (.of (q2.trans q3)))) (let ⟨m, e⟩ := st1; ⟨m, q3 _ _ (q2 _ _ e)⟩) ?_ ?_ (.row (by rw [ld]; omega) hds)
   ·rw [dJ, <- en]; exact q3 _ _ (q2 _ _ hb1)
   ·simp only [Rep]
    exact ⟨p, ys, rfl, ad, (Rs.mono q2).mono q3⟩
 | pair i j =>
  obtain ⟨l, u, rfl, Rl, Ru⟩ := hv
  have ks : i.size + j.size + 1 <= n + 1 := kn
  obtain ⟨pi, ci0, ci1⟩ := bK hn kg.1
  obtain ⟨pj, cj0, cj1⟩ := bK hn kg.2
  have rr : rws nums i + rws nums j <= 600 := r600
  have ii : (is.length : Int) + (cnt nums i + cnt nums j) <= 600 := i600
  refine ⟨_, rfl, t, _, 0, .str "pair", rfl, rfl, SqT.of ht, ai (j := 0) rfl, rfl, _, rfl, aW (fun h => absurd h (by decide +kernel)) (fun _ => ?_)⟩
  refine ⟨_, rfl, t, _, 0, .str "pair", rfl, rfl, SqT.of ht, ai (j := 0) rfl, rfl, _, rfl, aW (fun h => absurd h (by decide +kernel)) (fun _ => ?_)⟩
  refine ⟨_, rfl, t, _, 0, .str "pair", rfl, rfl, SqT.of ht, ai (j := 0) rfl, rfl, _, rfl, aW (fun _ => ?_) (fun h => absurd (by decide +kernel) h)⟩
  refine ⟨_, rfl, t, _, 1, l, rfl, rfl, SqT.of ht, ai (j := 1) rfl, _, rfl, _, rfl, _, rfl, l, d, a, b, i, nums, is, rfl, Rl, hd, hn, ab, st, hb, by omega, kg.1, by omega, by omega, fun H1 w1 x s1 st1 hb1 R1 v1 => ?_⟩
  have t1 : cO H H1 := by obtain ⟨m0, e0⟩ := st; exact s1.tups e0 hb
  have lx := (v1.len hn kg.1).1
  refine ⟨_, rfl, _, rfl, t, _, 2, u, rfl, rfl, SqT.of (t1 _ _ ht), ai (j := 2) rfl, _, rfl, _, rfl, _, rfl, u, d, a, b, j, nums, is ++ nos (pre x), rfl, Kd.tupS t1 Ru, s1 _ _ da db hd, hn, ab, st1, hb1, by omega, kg.2, by omega, by rw [List.length_append]; omega, fun H2 w2 y s2 st2 hb2 R2 v2 => ⟨z2, fun p hp => ?_⟩⟩
  have t2 : cO H1 H2 := by obtain ⟨m0, e0⟩ := st1; exact s2.tups e0 hb1
  have q3 := ah hp (.tup [w1, w2])
  refine q _ (.ref p) (.tup [x, y]) (s1.trans (s2.trans (.of q3))) (let ⟨m, e⟩ := st2; ⟨m, q3 _ _ e⟩) ?_ ?_ (.pair v1 v2)
  ·rw [dJ]
   simp only [List.flatMap_cons, List.flatMap_nil, List.append_nil]
   rw [<- List.append_assoc]
   exact q3 _ _ hb2
  ·simp only [Rep, Reps]
   exact ⟨p, _, rfl, ad, _, _, rfl, (bI t2 v1.iv.pl R1).mono q3, _, _, rfl, R2.mono q3, rfl⟩
end
abbrev dB : Stmt := top 9
abbrev eI : Stmt := top 29
def eg (n : Nat) : Sp := fun vs H Q _ => ∃ (v : V) (d b : Addr) (k : Kd) (nums : List Pr) (x : Dv), vs = [v, .ref d, .ref b] /\ Rep H k.dv v /\ H d = some (.dK (dk nums)) /\ NB nums /\ H b = some (.lst ((nos (pre x)).map V.int)) /\ k.size <= n /\ k.size <= 12 /\ el k /\ rws nums k <= 600 /\ Vl nums k x /\
 ∀ (H' : Hp) (w : V), az H H' -> Rep H' x w -> Q w H'
def fy (n : Nat) : Sp := fun vs H Q _ => ∃ (u v : V) (d : Dv), vs = [u, v] /\ Rep H d u /\ Rep H d v /\ Iv n d /\ (pre d).length <= 5000 /\ ∀ H', az H H' -> Q (.bl true) H'
theorem rN {xs : List V} {i e : Nat} (h : i + e <= xs.length) : cG xs (some (i : Int)) (some ((i : Int) + (e : Int))) = (xs.drop i).take e := by
 unfold cG
 rw [show ((i : Int) + (e : Int)) = ((i + e : Nat) : Int) by omega, HT.sIx_nat, HT.sIx_nat, Nat.min_eq_left h, Nat.min_eq_left (show i <= xs.length by omega), Nat.add_sub_cancel_left]
theorem pR {xs : List V} {e : Nat} (h : e <= xs.length) : cG xs none (some (e : Int)) = xs.take e := by
 unfold cG
 rw [HT.sIx_nat, Nat.min_eq_left h]
 rfl
theorem pN {xs : List V} {e : Nat} (h : e <= xs.length) : cG xs (some (e : Int)) none = xs.drop e := by
 unfold cG
 rw [HT.sIx_nat, Nat.min_eq_left h]
 show (xs.drop e).take (xs.length - e) = _
 rw [<- List.length_drop, List.take_length]
theorem lC {α β : Type} {f : α -> List β} {e : Nat} : ∀ {ds : List α}, (∀ d ∈ ds, (f d).length = e) -> ∀ {i : Nat} {d : α}, ds[i]? = some d -> (((ds.flatMap f).drop (e * i)).take e = f d /\ e * i + e <= (ds.flatMap f).length)
 | [], _, i, d, h => by simp at h
 | y :: ds, hl, 0, d, h => by
  cases h
  have h1 := hl y List.mem_cons_self
  rw [List.flatMap_cons, Nat.mul_zero, List.drop_zero, List.length_append]
  refine ⟨?_, by omega⟩
  rw [List.take_append_of_le_length (by omega), <- h1, List.take_length]
 | y :: ds, hl, i + 1, d, h => by
  have h1 := hl y List.mem_cons_self
  obtain ⟨a1, a2⟩ := lC (ds := ds) (fun z hz => hl z (List.mem_cons_of_mem _ hz)) (i := i) (d := d) h
  rw [List.flatMap_cons, List.length_append, Nat.mul_succ]
  refine ⟨?_, by omega⟩
  rw [Nat.add_comm (e * i) e, <- List.drop_drop, show List.drop e (f y ++ ds.flatMap f) = ds.flatMap f by rw [<- h1, List.drop_left]]
  exact a1
theorem tZ {d : Dv} {ds : List Dv} (h : d ∈ ds) : (pre d).length <= (pre (.tup ds)).length /\ ds.length <= (pre (.tup ds)).length := by
 rw [bG (.tup ds)]
 show _ <= (Dv.tup ds :: pres ds).length /\ ds.length <= (Dv.tup ds :: pres ds).length
 rw [bP, List.length_cons]
 have lpre : ∀ l : List Dv, l.length <= (l.flatMap pre).length := by
  intro l
  induction l with
  | nil => simp
  | cons y l ih => rw [List.length_cons, List.flatMap_cons, List.length_append]; have := jG y; omega
 have h2 := lpre ds
 refine ⟨?_, by omega⟩
 clear h2
 induction ds with
 | nil => cases h
 | cons y ds ih =>
  rw [List.flatMap_cons, List.length_append]
  rcases List.mem_cons.mp h with rfl | h
  ·omega
  ·have := ih h; omega
theorem tW (ds : List Dv) : ds.length + 1 <= (pre (.tup ds)).length := by
 rw [bG (.tup ds)]
 show ds.length + 1 <= (Dv.tup ds :: pres ds).length
 rw [bP, List.length_cons]
 have lpre : ∀ l : List Dv, l.length <= (l.flatMap pre).length := by
  intro l
  induction l with
  | nil => simp
  | cons y l ih => rw [List.length_cons, List.flatMap_cons, List.length_append]; have := jG y; omega
 have := lpre ds
 omega
theorem uK {X : Cx} (K : PySem.W.Frag) (e : X.K = K) : SlR X (vo K) := by subst e; exact nr
section
variable {P : Program} {w : World} {K : PySem.W.Frag} {mg : Str -> Option Value} {base : Heap}
theorem iM : aP ["kind", "numbers", "flat", "each", "starts", "ahead"] ["kind", "numbers", "flat"] (aj dB) := ⟨rfl, rfl, rfl, by decide +kernel, rfl, by decide +kernel, by decide +kernel⟩
theorem ou {f : Addr} {fd : FuncData} {k0 n : Nat} (F : Fun K "raised" "raised" dB f fd) (T : Txt K mg) (Dworth : Def P w K mg base k0 "worth" ["a", "numbers"] cD) (Dcount_in : Def P w K mg base k0 "count_in" ["kind", "numbers"] (eQ cnt 12)) (Draised : Def P w K mg base k0 "raised" ["kind", "numbers", "flat"] (eg n)) : bg P w K mg base CX0 (k0 + 1) f fd ["kind", "numbers", "flat"] (eg (n + 1)) := by
 have nd : (["kind", "numbers", "flat", "each", "starts", "ahead"] : List Str).Nodup := iM.nd
 refine F.ok iM (fun vs H Q E h => ?_) (fun cdv A outer s H vs Q E hr h => ?_)
 ·obtain ⟨v, d, b, k, nums, x, rfl, _⟩ := h
  rfl
 obtain ⟨v, d, b, k, nums, x, rfl, R, hd, hn, hb, kn, k12, kg, r600, vl, q⟩ := h
 obtain ⟨t, vs, rfl, ht, hv⟩ := Kd.inv R
 refine ⟨_, (@ag _ _ _ _ _ (@bv _ _ _ _ _ _ _ _ (@aI _ _ _ _ _ _ _ _ bM (@aG _ _ _ _ _ _ _ aE (@pv _ 0 _ _ (by rfl) (by trivial) (by decide) (by decide)) (@ae _ _ _ _) (fun _ _ => rfl)) (@aM _ _ _ _) (aQ _)) (@ag _ _ _ _ _ (@aB _ _ (3) _ _ _ _ nd rfl (Or.inr rfl) (@av _ _ _ _ _ _ _ _ _ _ Dcount_in hr rfl (@aa _ _ _ _ _ (@aG _ _ _ _ _ _ _ aE (@pv _ 0 _ _ (by rfl) (by trivial) (by decide) (by decide)) (@ae _ _ _ _) (fun _ _ => rfl)) (@aa _ _ _ _ _ (@pv _ 1 _ _ (by rfl) (by trivial) (by decide) (by decide)) (@af _) (by rfl)) (by rfl)) (by decide) (by rfl) (by rfl)) (by rfl) (by trivial)) (@ag _ _ _ _ _ (@tu _ _ (["place"]) ([3]) _ _ _ _ _ _ _ _ _ _ _ (4) _ nd rfl rfl (@gk _ _ _ _ _ _ rfl T.range (@aa _ _ _ _ _ (@av _ _ _ _ _ _ _ _ _ _ Dworth hr rfl (@aa _ _ _ _ _ (@aG _ _ _ _ _ _ _ aE (@pv _ 0 _ _ (by rfl) (by trivial) (by decide) (by decide)) (@ae _ _ _ _) (fun _ _ => rfl)) (@aa _ _ _ _ _ (@pv _ 1 _ _ (by rfl) (by trivial) (by decide) (by decide)) (@af _) (by rfl)) (by rfl)) (by decide) (by rfl) (by rfl)) (@af _) (by rfl)) (by rfl)) (.of rfl) rfl (fun _ _ _ => aL (i := 0) (cX (l := ["place", "each"]) ((by decide +kernel)) rfl) rfl (Or.inl rfl)) (eK (by decide)) (fun _ _ _ => (@cW _)) (fun _ _ _ => (@aq _ _ _ _ _ _ _ _ bF (@pv _ 1 _ _ (by rfl) (by trivial) (by decide) (by decide)) (@pv _ 0 _ _ (by rfl) (by trivial) (by decide) (by decide)))) (by rfl) (by intro _; rfl)) (@ao _ _ _ (@aD _ _ _ _ (@bp _ _ _ _ _ _ _ _ _ bj rfl T.tuple (by decide +kernel) (@aa _ _ _ _ _ (@iz _ _ (["start"]) ([0, 1, 2, 3]) _ _ _ _ _ _ _ _ _ (@fC _ _ _ _ (@pv _ 4 _ _ (by rfl) (by trivial) (by decide) (by decide))) (.of rfl) rfl (fun _ _ _ => aL (i := 0) (cX (l := ["start", "kind", "numbers", "flat", "each"]) ((by decide +kernel)) rfl) rfl (Or.inl rfl)) (eK (by decide)) (fun _ _ _ => (@cW _)) (fun _ _ _ => (@av _ _ _ _ _ _ _ _ _ _ Draised hr rfl (@aa _ _ _ _ _ (@aG _ _ _ _ _ _ _ (mW K rfl) (@pv _ 1 _ _ (by rfl) (by trivial) (by decide) (by decide)) (@ae _ _ _ _) (fun _ _ => rfl)) (@aa _ _ _ _ _ (@pv _ 2 _ _ (by rfl) (by trivial) (by decide) (by decide)) (@aa _ _ _ _ _ (@dU _ _ _ _ _ _ _ _ _ _ (uK K rfl) (@pv _ 3 _ _ (by rfl) (by trivial) (by decide) (by decide)) (@eJ _ _ _ (@pv _ 0 _ _ (by rfl) (by trivial) (by decide) (by decide))) (@eJ _ _ _ (@aq _ _ _ _ _ _ _ _ bo (@pv _ 0 _ _ (by rfl) (by trivial) (by decide) (by decide)) (@pv _ 4 _ _ (by rfl) (by trivial) (by decide) (by decide))))) (@af _) (by rfl)) (by rfl)) (by rfl)) (by decide) (by rfl) (by rfl))) (by intro _; rfl)) (@af _) (by rfl)) (by decide) (by decide) (by rfl) (by rfl)))))) (@aS _)) (@ag _ _ _ _ _ (@bv _ _ _ _ _ _ _ _ (@aI _ _ _ _ _ _ _ _ bM (@aG _ _ _ _ _ _ _ aE (@pv _ 0 _ _ (by rfl) (by trivial) (by decide) (by decide)) (@ae _ _ _ _) (fun _ _ => rfl)) (@aM _ _ _ _) (aQ _)) (@ag _ _ _ _ _ (@aB _ _ (5) _ _ _ _ nd rfl (Or.inl rfl) (@av _ _ _ _ _ _ _ _ _ _ Dcount_in hr rfl (@aa _ _ _ _ _ (@aG _ _ _ _ _ _ _ aE (@pv _ 0 _ _ (by rfl) (by trivial) (by decide) (by decide)) (@ae _ _ _ _) (fun _ _ => rfl)) (@aa _ _ _ _ _ (@pv _ 1 _ _ (by rfl) (by trivial) (by decide) (by decide)) (@af _) (by rfl)) (by rfl)) (by decide) (by rfl) (by rfl)) (by rfl) (by trivial)) (@ao _ _ _ (@aD _ _ _ _ (@ba _ _ _ _ _ (@aa _ _ _ _ _ (@av _ _ _ _ _ _ _ _ _ _ Draised hr rfl (@aa _ _ _ _ _ (@aG _ _ _ _ _ _ _ aE (@pv _ 0 _ _ (by rfl) (by trivial) (by decide) (by decide)) (@ae _ _ _ _) (fun _ _ => rfl)) (@aa _ _ _ _ _ (@pv _ 1 _ _ (by rfl) (by trivial) (by decide) (by decide)) (@aa _ _ _ _ _ (@dU _ _ _ _ _ _ _ _ _ _ (uK K rfl) (@pv _ 2 _ _ (by rfl) (by trivial) (by decide) (by decide)) (@gG _) (@eJ _ _ _ (@pv _ 5 _ _ (by rfl) (by trivial) (by decide) (by decide)))) (@af _) (by rfl)) (by rfl)) (by rfl)) (by decide) (by rfl) (by rfl)) (@aa _ _ _ _ _ (@av _ _ _ _ _ _ _ _ _ _ Draised hr rfl (@aa _ _ _ _ _ (@aG _ _ _ _ _ _ _ aE (@pv _ 0 _ _ (by rfl) (by trivial) (by decide) (by decide)) (@ae _ _ _ _) (fun _ _ => rfl)) (@aa _ _ _ _ _ (@pv _ 1 _ _ (by rfl) (by trivial) (by decide) (by decide)) (@aa _ _ _ _ _ (@dU _ _ _ _ _ _ _ _ _ _ (uK K rfl) (@pv _ 2 _ _ (by rfl) (by trivial) (by decide) (by decide)) (@eJ _ _ _ (@pv _ 5 _ _ (by rfl) (by trivial) (by decide) (by decide))) (@gG _)) (@af _) (by rfl)) (by rfl)) (by rfl)) (by decide) (by rfl) (by rfl)) (@af _) (by rfl)) (by rfl)))))) (@aS _)) (@ao _ _ _ (@aD _ _ _ _ (@aG _ _ _ _ _ _ _ cP (@pv _ 2 _ _ (by rfl) (by trivial) (by decide) (by decide)) (@ae _ _ _ _) (fun _ _ => rfl)))))), ?_⟩
 cases vl with
 | @whole i =>
  subst hv
  refine ⟨_, rfl, t, _, 0, .str "whole", rfl, rfl, SqT.of ht, ai (j := 0) rfl, rfl, _, rfl, aW (fun h => absurd h (by decide +kernel)) (fun _ => ?_)⟩
  refine ⟨_, rfl, t, _, 0, .str "whole", rfl, rfl, SqT.of ht, ai (j := 0) rfl, rfl, _, rfl, aW (fun h => absurd h (by decide +kernel)) (fun _ => ?_)⟩
  exact ⟨_, rfl, b, _, 0, .int i, rfl, rfl, SqL.of hb, ai (j := 0) rfl, q H (.int i) (az.refl _) (by simp only [Rep])⟩
 | @place c ps i =>
  obtain ⟨l, rfl, Rl⟩ := hv
  refine ⟨_, rfl, t, _, 0, .str "place", rfl, rfl, SqT.of ht, ai (j := 0) rfl, rfl, _, rfl, aW (fun h => absurd h (by decide +kernel)) (fun _ => ?_)⟩
  refine ⟨_, rfl, t, _, 0, .str "place", rfl, rfl, SqT.of ht, ai (j := 0) rfl, rfl, _, rfl, aW (fun h => absurd h (by decide +kernel)) (fun _ => ?_)⟩
  exact ⟨_, rfl, b, _, 0, .int i, rfl, rfl, SqL.of hb, ai (j := 0) rfl, q H (.int i) (az.refl _) (by simp only [Rep])⟩
 | @row c ps j ds hl hds =>
  obtain ⟨l, u, rfl, Rl, Ru⟩ := hv
  have j12 : j.size + 1 <= 12 := k12
  have jn : j.size <= n := by have : j.size + 1 <= n + 1 := kn; omega
  obtain ⟨am0, am1⟩ := bZ hn kg.1
  obtain ⟨pj, cj0, cj1⟩ := bK hn kg.2
  have al := qz hn kg
  have ce : cnt nums j = ((cnt nums j).toNat : Int) := by omega
  have le : ∀ d ∈ ds, (nos (pre d)).length = (cnt nums j).toNat := fun d hd => by have := ((hds d hd).len hn kg.2).1; omega
  refine ⟨_, rfl, t, _, 0, .str "row", rfl, rfl, SqT.of ht, ai (j := 0) rfl, rfl, _, rfl, aW (fun _ => ?_) (fun h => absurd (by decide +kernel) h)⟩
  refine ⟨_, rfl, t, _, 2, u, rfl, rfl, SqT.of ht, ai (j := 2) rfl, _, rfl, u, d, j, nums, rfl, Ru, by omega, kg.2, hn, hd, fun H1 s1 => ?_⟩
  refine ⟨_, rfl, t, _, 1, l, rfl, rfl, SqT.of (s1 _ _ ht), ai (j := 1) rfl, _, rfl, l, d, c, ps, nums, rfl, Rl.mono s1, kg.1, hn, s1 _ _ hd, fun H2 s2 => ?_⟩
  have s02 := s1.trans s2
  refine ⟨_, rfl, by omega, by omega, kN (n := (amt nums c ps).toNat) (fun i ys H' => H' = H2 /\ ys = (List.range i).map fun z : Nat => V.int (cnt nums j * ((0 : Int) + (z : Int)))) ⟨rfl, rfl⟩ ?_ ?_⟩
  ·rintro i ys H3 hi ⟨rfl, rfl⟩
   refine fV ⟨_, rfl, _, rfl, _, _, rfl, rfl, .inr ⟨by omega, by omega⟩, by rw [List.length_map, List.length_range, sizeLine_eq]; omega, rfl, ?_⟩
   rw [List.range_succ, List.map_append]; rfl
  ·rintro ys H3 ⟨rfl, rfl⟩ S hS
   have s3 := ah hS (.lst ((List.range (amt nums c ps).toNat).map fun z : Nat => V.int (cnt nums j * ((0 : Int) + (z : Int)))))
   have s03 := s02.trans s3
   generalize hst : ((List.range (amt nums c ps).toNat).map fun z : Nat => V.int (cnt nums j * ((0 : Int) + (z : Int)))) = starts at s3 s03 ⊢
   have lst : starts.length = ds.length := by rw [<- hst, List.length_map, List.length_range]; omega
   refine ⟨_, rfl, S, rfl, ⟨_, SqL.of ad⟩, nH (xs := starts) (fun i ys H' => az (upd H3 S (.lst starts)) H' /\ Reps H' (ds.take i) ys) ⟨az.refl _, by rw [List.take_zero]; simp only [Reps]⟩ (fun i ys H' _ p => SqL.of (p.1 _ _ ad)) ?_ ?_⟩
   ·rintro i ys H4 z hz ⟨s4, R4⟩
    have hi : i < starts.length := (List.getElem?_eq_some_iff.mp hz).1
    have s04 := s03.trans s4
    rw [<- hst, List.getElem?_map, List.getElem?_range (by omega)] at hz
    cases hz
    have hdi : ds[i]? = some (ds[i]'(by omega)) := List.getElem?_eq_getElem _
    generalize ds[i]'(by omega) = di at hdi
    obtain ⟨f1, f2⟩ := lC (f := fun d => nos (pre d)) le hdi
    have dm := List.mem_of_getElem? hdi
    have ly : ys.length = i := by have := R4.length; rw [List.length_take] at this; omega
    have inn := tE hn kg (by omega)
    refine fV ⟨_, rfl, t, _, 2, u, rfl, rfl, SqT.of (s04 _ _ ht), ai (j := 2) rfl, _, rfl, _, rfl, _, rfl, _, rfl, _, rfl, _, rfl, _, _, rfl, rfl, _, rfl, b, _, rfl, SqL.of (s04 _ _ hb), fun p hp => ?_⟩
    have ec : cG ((nos (pre (.tup ds))).map V.int) (some (cnt nums j * ((0 : Int) + (i : Int)))) (some (cnt nums j * ((0 : Int) + (i : Int)) + cnt nums j)) = (nos (pre di)).map V.int := by
     have e1 : cnt nums j * ((0 : Int) + (i : Int)) = (((cnt nums j).toNat * i : Nat) : Int) := by rw [Int.zero_add, Int.natCast_mul, <- ce]
     have h2 : (cnt nums j).toNat * i + (cnt nums j).toNat <= ((nos (pre (.tup ds))).map V.int).length := by rw [List.length_map, dJ]; exact f2
     have e2 := rN h2
     rw [<- ce, <- e1] at e2
     rw [e2, <- List.map_drop, <- List.map_take, dJ, f1]
    have s5 := ah hp (.lst ((nos (pre di)).map V.int))
    have go : ∀ (L : List V), L = (nos (pre di)).map V.int -> upd H4 p (.lst L) p = some (.lst ((nos (pre di)).map V.int)) /\ az H4 (upd H4 p (.lst L)) := fun L e => by subst e; exact ⟨ad, s5⟩
    obtain ⟨g1, g2⟩ := go _ ec
    refine ⟨u, d, p, j, nums, di, rfl, (Ru.mono s04).mono g2, g2 _ _ (s04 _ _ hd), hn, g1, jn, by omega, kg.2, by omega, hds di dm, fun H5 w1 s6 R6 => ⟨by rw [ly, sizeLine_eq]; omega, s4.trans (g2.trans s6), ?_⟩⟩
    rw [List.take_add_one, hdi]
    exact Reps.append ((R4.mono g2).mono s6) (dC R6)
   ·rintro ys H4 ⟨s4, R4⟩ g hg
    rw [lst, List.take_length] at R4
    have q2 := ah hg (.lst ys)
    refine ⟨g, ys, rfl, .inl ⟨SqL.of ad, fun p hp => ?_⟩⟩
    have q3 := ah hp (.tup ys)
    refine q _ (.ref p) (s03.trans (s4.trans (q2.trans q3))) ?_
    simp only [Rep]
    exact ⟨p, ys, rfl, ad, (R4.mono q2).mono q3⟩
 | @pair i j x y v1 v2 =>
  obtain ⟨l, u, rfl, Rl, Ru⟩ := hv
  have ks : i.size + j.size + 1 <= n + 1 := kn
  have k12' : i.size + j.size + 1 <= 12 := k12
  obtain ⟨pi, ci0, ci1⟩ := bK hn kg.1
  obtain ⟨pj, cj0, cj1⟩ := bK hn kg.2
  have rr : rws nums i + rws nums j <= 600 := r600
  have lx := (v1.len hn kg.1).1
  have ce : cnt nums i = ((nos (pre x)).length : Int) := by omega
  have fl : (nos (pre (.tup [x, y]))).map V.int = (nos (pre x)).map V.int ++ (nos (pre y)).map V.int := by rw [dJ]; simp
  rw [fl] at hb
  refine ⟨_, rfl, t, _, 0, .str "pair", rfl, rfl, SqT.of ht, ai (j := 0) rfl, rfl, _, rfl, aW (fun h => absurd h (by decide +kernel)) (fun _ => ?_)⟩
  refine ⟨_, rfl, t, _, 0, .str "pair", rfl, rfl, SqT.of ht, ai (j := 0) rfl, rfl, _, rfl, aW (fun _ => ?_) (fun h => absurd (by decide +kernel) h)⟩
  refine ⟨_, rfl, t, _, 1, l, rfl, rfl, SqT.of ht, ai (j := 1) rfl, _, rfl, l, d, i, nums, rfl, Rl, by omega, kg.1, hn, hd, fun H1 s1 => ?_⟩
  refine ⟨_, rfl, t, _, 1, l, rfl, rfl, SqT.of (s1 _ _ ht), ai (j := 1) rfl, _, rfl, _, rfl, _, rfl, _, rfl, b, _, rfl, SqL.of (s1 _ _ hb), fun p hp => ?_⟩
  have e1 : cG ((nos (pre x)).map V.int ++ (nos (pre y)).map V.int) none (some (cnt nums i)) = (nos (pre x)).map V.int := by
   rw [ce, pR (by rw [List.length_append, List.length_map]; omega)]
   have := List.take_left (l₁ := (nos (pre x)).map V.int) (l₂ := (nos (pre y)).map V.int)
   rwa [List.length_map] at this
  have e2 : cG ((nos (pre x)).map V.int ++ (nos (pre y)).map V.int) (some (cnt nums i)) none = (nos (pre y)).map V.int := by
   rw [ce, pN (by rw [List.length_append, List.length_map]; omega)]
   have := List.drop_left (l₁ := (nos (pre x)).map V.int) (l₂ := (nos (pre y)).map V.int)
   rwa [List.length_map] at this
  have go : ∀ (H4 : Hp) (p : Addr) (L M : List V), L = M -> H4 p = none -> upd H4 p (.lst L) p = some (.lst M) /\ az H4 (upd H4 p (.lst L)) := fun H4 p L M e hp => by subst e; exact ⟨ad, ah hp _⟩
  obtain ⟨g1, g2⟩ := go _ p _ _ e1 hp
  refine ⟨l, d, p, i, nums, x, rfl, (Rl.mono s1).mono g2, g2 _ _ (s1 _ _ hd), hn, g1, by omega, by omega, kg.1, by omega, v1, fun H2 w1 s2 R1 => ?_⟩
  have s12 := s1.trans (g2.trans s2)
  refine ⟨_, rfl, t, _, 2, u, rfl, rfl, SqT.of (s12 _ _ ht), ai (j := 2) rfl, _, rfl, _, rfl, _, rfl, _, rfl, b, _, rfl, SqL.of (s12 _ _ hb), fun p2 hp2 => ?_⟩
  obtain ⟨g3, g4⟩ := go _ p2 _ _ e2 hp2
  refine ⟨u, d, p2, j, nums, y, rfl, (Ru.mono s12).mono g4, g4 _ _ (s12 _ _ hd), hn, g3, by omega, by omega, kg.2, by omega, v2, fun H3 w2 s3 R2 => ⟨z2, fun p3 hp3 => ?_⟩⟩
  have q3 := ah hp3 (.tup [w1, w2])
  refine q _ (.ref p3) (s12.trans (g4.trans (s3.trans q3))) ?_
  simp only [Rep, Reps]
  exact ⟨p3, _, rfl, ad, _, _, rfl, (R1.mono (g4.trans s3)).mono q3, _, _, rfl, R2.mono q3, rfl⟩
theorem qC : aP ["_law_found", "_law_due"] ["_law_found", "_law_due"] (aj eI) := ⟨rfl, rfl, rfl, by decide +kernel, rfl, by decide +kernel, by decide +kernel⟩
theorem pJ {f : Addr} {fd : FuncData} {k0 n : Nat} (F : Fun K "_law_alike" "_law_alike" eI f fd) (T : Txt K mg) (D_law_alike : Def P w K mg base k0 "_law_alike" ["_law_found", "_law_due"] (fy n)) : bg P w K mg base CX0 (k0 + 1) f fd ["_law_found", "_law_due"] (fy (n + 1)) := by
 refine F.ok qC (fun vs H Q E h => ?_) (fun cdv A outer s H vs Q E hr h => ?_)
 ·obtain ⟨u, v, d, rfl, _⟩ := h
  rfl
 obtain ⟨u, v, d, rfl, Ru, Rv, ak, l5, q⟩ := h
 have hu := iU hr
 refine ⟨_, (@ag _ _ _ _ _ (@bv _ _ _ _ _ _ _ _ (@dP _ _ _ (@aT _ _ _ _ _ _ _ _ _ cM rfl T.isinstance (by decide +kernel) (@aa _ _ _ _ _ (@pv _ 1 _ _ (by rfl) (by trivial) (by decide) (by decide)) (@aa _ _ _ _ _ (@dL _ _ (.ty "tuple") _ _ rfl T.tuple (by decide +kernel) rfl (by decide) (by decide)) (@af _) (by rfl)) (by rfl)) (by decide) (by decide) (by rfl) (by rfl)) (by intro _; rfl)) (@ag _ _ _ _ _ (@bv _ _ _ _ _ _ _ _ (@PW.pt _ _ _ (@iO _ _ _ _ _ _ _ (@fX _ _ _ _ (@dP _ _ _ (@aT _ _ _ _ _ _ _ _ _ cM rfl T.isinstance (by decide +kernel) (@aa _ _ _ _ _ (@pv _ 0 _ _ (by rfl) (by trivial) (by decide) (by decide)) (@aa _ _ _ _ _ (@dL _ _ (.ty "tuple") _ _ rfl T.tuple (by decide +kernel) rfl (by decide) (by decide)) (@af _) (by rfl)) (by rfl)) (by decide) (by decide) (by rfl) (by rfl)) (by intro _; rfl))) (@gL _ _ _ _ (@aI _ _ _ _ _ _ _ _ pM (@aT _ _ _ _ _ _ _ _ _ cH rfl T.len (by decide +kernel) (@aa _ _ _ _ _ (@pv _ 0 _ _ (by rfl) (by trivial) (by decide) (by decide)) (@af _) (by rfl)) (by decide) (by decide) (by rfl) (by rfl)) (@aT _ _ _ _ _ _ _ _ _ cH rfl T.len (by decide +kernel) (@aa _ _ _ _ _ (@pv _ 1 _ _ (by rfl) (by trivial) (by decide) (by decide)) (@af _) (by rfl)) (by decide) (by decide) (by rfl) (by rfl)) (aQ _))))) (@ao _ _ _ (@aD _ _ _ _ (@iQ _ _ _ _))) (@aS _)) (@ao _ _ _ (@aD _ _ _ _ (@aT _ _ _ _ _ _ _ _ _ (pX rfl) rfl T.all (by decide +kernel) (@aa _ _ _ _ _ (@iz _ _ (["_law_one", "_law_other"]) ([]) _ _ _ _ _ _ _ _ _ (@pD _ _ _ _ _ _ _ _ _ rfl T.zip (@aa _ _ _ _ _ (@pv _ 0 _ _ (by rfl) (by trivial) (by decide) (by decide)) (@aa _ _ _ _ _ (@pv _ 1 _ _ (by rfl) (by trivial) (by decide) (by decide)) (@af _) (by rfl)) (by rfl)) (by rfl) (by rfl)) (.of rfl) rfl (fun _ _ _ => cp rfl (@aN _ _ _ _ _ (@aL _ _ (0) _ (cX (l := ["_law_one", "_law_other"]) ((by decide +kernel)) rfl) rfl (Or.inl rfl) (by trivial)) (@aN _ _ _ _ _ (@aL _ _ (1) _ (cX (l := ["_law_one", "_law_other"]) ((by decide +kernel)) rfl) rfl (Or.inl rfl) (by trivial)) (@bN _) (by rfl)) (by rfl))) (hJ (by decide) (by decide)) (fun _ _ _ => (@cW _)) (fun _ _ _ => (@av _ _ _ _ _ _ _ _ _ _ D_law_alike hr rfl (@aa _ _ _ _ _ (@pv _ 0 _ _ (by rfl) (by trivial) (by decide) (by decide)) (@aa _ _ _ _ _ (@pv _ 1 _ _ (by rfl) (by trivial) (by decide) (by decide)) (@af _) (by rfl)) (by rfl)) (by decide) (by rfl) (by rfl))) (by intro _; rfl)) (@af _) (by rfl)) (by decide) (by decide) (by rfl) (by rfl))))) (@aS _)) (@ao _ _ _ (@aD _ _ _ _ (@ku _ _ _ _ _ _ _ (@aT _ _ _ _ _ _ _ _ _ cM rfl T.isinstance (by decide +kernel) (@aa _ _ _ _ _ (@pv _ 0 _ _ (by rfl) (by trivial) (by decide) (by decide)) (@aa _ _ _ _ _ (@dL _ _ (.ty "int") _ _ rfl T.int (by decide +kernel) rfl (by decide) (by decide)) (@af _) (by rfl)) (by rfl)) (by decide) (by decide) (by rfl) (by rfl)) (@ku _ _ _ _ _ _ _ (@uO _ _ _ _ (@aT _ _ _ _ _ _ _ _ _ cM rfl T.isinstance (by decide +kernel) (@aa _ _ _ _ _ (@pv _ 0 _ _ (by rfl) (by trivial) (by decide) (by decide)) (@aa _ _ _ _ _ (@dL _ _ (.ty "bool") _ _ rfl T.bool (by decide +kernel) rfl (by decide) (by decide)) (@af _) (by rfl)) (by rfl)) (by decide) (by decide) (by rfl) (by rfl))) (@pI _ _ _ _ _ (@fu _ _ _ _ _ _ _ _ bM (@pv _ 0 _ _ (by rfl) (by trivial) (by decide) (by decide)) (@pv _ 1 _ _ (by rfl) (by trivial) (by decide) (by decide)) (aQ _)))))))), ?_⟩
 refine ⟨_, rfl, _, _, _, _, rfl, Rv.ty, dD K d, _, rfl, ?_⟩
 cases ak with
 | @int _ i =>
  obtain rfl : u = .int i := by simpa only [Rep] using Ru
  obtain rfl : v = .int i := by simpa only [Rep] using Rv
  rw [uX]
  refine eR ?_
  refine ⟨_, rfl, _, _, _, _, rfl, cY.int i, sS K (.int i), _, rfl, ?_⟩
  rw [wk]
  refine fY ?_
  refine ⟨_, rfl, _, _, _, _, rfl, cY.int i, qb K (.int i), _, rfl, _, rfl, ?_⟩
  rw [vZ]
  refine fY ?_
  refine ⟨_, rfl, _, rfl, rfl, ?_⟩
  rw [decide_eq_true rfl]
  exact q H (az.refl _)
 | @tup _ ds hd =>
  obtain ⟨a, us, rfl, ha, ru⟩ := Rep.tup_inv Ru
  obtain ⟨b, vs, rfl, hb, rv⟩ := Rep.tup_inv Rv
  have l1 := ru.length
  have l2 := rv.length
  have l3 := tW ds
  rw [gD]
  refine fY ?_
  refine ⟨_, rfl, _, _, _, _, rfl, cY.tup ha, dD K (.tup ds), _, rfl, ?_⟩
  rw [gD]
  refine eR ?_
  refine ⟨_, rfl, a, _, rfl, .inr (SqT.of ha), _, rfl, b, _, rfl, .inr (SqT.of hb), rfl, _, rfl, ?_⟩
  rw [show (!decide (V.int (us.length : Int) = V.int (vs.length : Int))) = false by rw [l1, l2]; simp]
  refine eR ?_
  refine ⟨_, rfl, _, rfl, a, b, rfl, ⟨_, SqT.of ha⟩, ⟨_, SqT.of hb⟩, pV (xs := us) (ys := vs) (fun i ys H' => az H H' /\ ys = (List.replicate i true).map V.bl /\ i <= 5000) ⟨az.refl _, rfl, Nat.zero_le _⟩ (fun i zs H' p => ⟨SqT.of (p.1 _ _ ha), SqT.of (p.1 _ _ hb)⟩) ?_ ?_⟩
  ·rintro i zs H1 x y p hx hy ⟨s1, rfl, i30⟩ hp
   obtain ⟨d1, hd1, Rd1⟩ := ru.get hx
   obtain ⟨d2, hd2, Rd2⟩ := rv.get hy
   rw [hd1] at hd2
   cases hd2
   have hi : i < us.length := (List.getElem?_eq_some_iff.mp hx).1
   have s2 := s1.trans (ah hp (.tup [x, y]))
   have dm := List.mem_of_getElem? hd1
   have dl := (tZ dm).1
   refine fj ad ⟨_, rfl, _, rfl, x, y, d1, rfl, Rd1.mono s2, Rd2.mono s2, hd d1 dm, by omega, fun H3 s3 => ⟨?_, s2.trans s3, ?_, by omega⟩⟩
   ·rw [List.length_map, List.length_replicate, sizeLine_eq]; omega
   ·rw [List.replicate_succ', List.map_append]; rfl
  ·rintro zs H1 ⟨s1, rfl, _⟩ l hl
   refine ⟨l, _, rfl, SqL.of ad, ?_⟩
   have e : ∀ n, (List.replicate n true).all id = true := fun n => by rw [List.all_eq_true]; intro b hb; rw [(List.mem_replicate.mp hb).2]; rfl
   rw [e]
   exact q _ (s1.trans (ah hl _))
end
abbrev cQ : Stmt := top 30
def jZ : Sp := fun vs H Q _ => ∃ (v : V) (d a : Addr) (k : Kd) (nums : List Pr), vs = [v, .ref d, .ref a] /\ Rep H k.dv v /\ H d = some (.dK (dk nums)) /\ NB nums /\ St1 H a /\ k.size <= 12 /\ el k /\ tms k <= 15625 /\ rws nums k <= 600 /\ ∀ H', bA a H H' -> Q (.bl true) H'
theorem rV (ns : List Int) : Iv 2 (.tup (ns.map Dv.int)) := .tup fun d hd => by
 obtain ⟨i, _, rfl⟩ := List.mem_map.mp hd
 exact .int
theorem pL (ns : List Int) : (pre (.tup (ns.map Dv.int))).length = ns.length + 1 := by
 rw [bG]
 show ((pres (ns.map Dv.int)).length + 1) = _
 congr 1
 induction ns with
 | nil => rfl
 | cons i ns ih =>
  have e : (pre (.int i)).length = 1 := by simp only [pre, List.length_singleton]
  rw [List.map_cons, pres, List.length_append, ih, e, List.length_cons]; omega
theorem gc {H : Hp} : ∀ ns : List Int, Reps H (ns.map Dv.int) (ns.map V.int)
 | [] => by simp only [List.map_nil, Reps]
 | i :: ns => by
  simp only [List.map_cons, Reps]
  exact ⟨_, _, rfl, by simp only [Rep], gc ns⟩
section
variable {P : Program} {w : World} {K : PySem.W.Frag} {mg : Str -> Option Value} {base : Heap}
theorem kK : aP ["_law_kind_here", "_law_numbers_here", "_law_state", "_law_flat", "_law_value_here", "_law_given", "_law_found", "_law_handed", "_law_back"] ["_law_kind_here", "_law_numbers_here", "_law_state"] (aj cQ) := ⟨rfl, rfl, rfl, by decide +kernel, rfl, by decide +kernel, by decide +kernel⟩
theorem qr {f : Addr} {fd : FuncData} {k0 : Nat} (F : Fun K "_law_right" "_law_right" cQ f fd) (T : Txt K mg) (D_law_value : Def P w K mg base k0 "_law_value" ["_law_kind_here", "_law_numbers_here", "_law_state", "_law_flat"] (fI 12)) (Dlaid : Def P w K mg base k0 "laid" ["value"] lZ) (D_law_alike : Def P w K mg base k0 "_law_alike" ["_law_found", "_law_due"] (fy 14)) (D_law_many : Def P w K mg base k0 "_law_many" ["_law_kind_here", "_law_numbers_here"] (eQ cnt 12)) (Dsum_worth : Def P w K mg base k0 "sum_worth" ["s", "numbers"] (iw K)) (Dweight : Def P w K mg base k0 "weight" ["kind"] (dY K 12)) (Draised : Def P w K mg base k0 "raised" ["kind", "numbers", "flat"] (eg 12)) : bg P w K mg base CX0 (k0 + 1) f fd ["_law_kind_here", "_law_numbers_here", "_law_state"] jZ := by
 have nd : (["_law_kind_here", "_law_numbers_here", "_law_state", "_law_flat", "_law_value_here", "_law_given", "_law_found", "_law_handed", "_law_back"] : List Str).Nodup := kK.nd
 refine F.ok kK (fun vs H Q E h => ?_) (fun cdv A outer s H vs Q E hr h => ?_)
 ·obtain ⟨v, d, a, k, nums, rfl, _⟩ := h
  rfl
 obtain ⟨v, d, a, k, nums, rfl, R, hd, hn, st, k12, kg, tk, r600, q⟩ := h
 have hu150 : (A.deeper (PyProof.Rows.envOfC "_law_right" (aj cQ) s.heap.objs.size f cdv)).units + 150 < cLine := by have := hr.un; omega
 have hu8 : (A.deeper (PyProof.Rows.envOfC "_law_right" (aj cQ) s.heap.objs.size f cdv)).units + 8 < cLine := by omega
 refine ⟨_, (@ag _ _ _ _ _ (@aB _ _ (3) _ _ _ _ nd rfl (Or.inl rfl) (@cL _ _ _ _ (@af _)) (by rfl) (by trivial)) (@ag _ _ _ _ _ (@aB _ _ (4) _ _ _ _ nd rfl (Or.inl rfl) (@av _ _ _ _ _ _ _ _ _ _ D_law_value hr rfl (@aa _ _ _ _ _ (@pv _ 0 _ _ (by rfl) (by trivial) (by decide) (by decide)) (@aa _ _ _ _ _ (@pv _ 1 _ _ (by rfl) (by trivial) (by decide) (by decide)) (@aa _ _ _ _ _ (@pv _ 2 _ _ (by rfl) (by trivial) (by decide) (by decide)) (@aa _ _ _ _ _ (@pv _ 3 _ _ (by rfl) (by trivial) (by decide) (by decide)) (@af _) (by rfl)) (by rfl)) (by rfl)) (by rfl)) (by decide) (by rfl) (by rfl)) (by rfl) (by trivial)) (@ag _ _ _ _ _ (@aB _ _ (5) _ _ _ _ nd rfl (Or.inl rfl) (@bp _ _ _ _ _ _ _ _ _ mj rfl T.dict (by decide +kernel) (@aa _ _ _ _ _ (@pv _ 1 _ _ (by rfl) (by trivial) (by decide) (by decide)) (@af _) (by rfl)) (by decide) (by decide) (by rfl) (by rfl)) (by rfl) (by trivial)) (@ag _ _ _ _ _ (@aB _ _ (6) _ _ _ _ nd rfl (Or.inl rfl) (@av _ _ _ _ _ _ _ _ _ _ Dlaid hr rfl (@aa _ _ _ _ _ (@pv _ 4 _ _ (by rfl) (by trivial) (by decide) (by decide)) (@af _) (by rfl)) (by decide) (by rfl) (by rfl)) (by rfl) (by trivial)) (@ag _ _ _ _ _ (@bv _ _ _ _ _ _ _ _ (@PW.pt _ _ _ (@iO _ _ _ _ _ _ _ (@fX _ _ _ _ (@dP _ _ _ (@aT _ _ _ _ _ _ _ _ _ cM rfl T.isinstance (by decide +kernel) (@aa _ _ _ _ _ (@pv _ 6 _ _ (by rfl) (by trivial) (by decide) (by decide)) (@aa _ _ _ _ _ (@dL _ _ (.ty "list") _ _ rfl T.list (by decide +kernel) rfl (by decide) (by decide)) (@af _) (by rfl)) (by rfl)) (by decide) (by decide) (by rfl) (by rfl)) (by intro _; rfl))) (@gL _ _ _ _ (@fX _ _ _ _ (@dP _ _ _ (@av _ _ _ _ _ _ _ _ _ _ D_law_alike hr rfl (@aa _ _ _ _ _ (@bp _ _ _ _ _ _ _ _ _ bj rfl T.tuple (by decide +kernel) (@aa _ _ _ _ _ (@pv _ 6 _ _ (by rfl) (by trivial) (by decide) (by decide)) (@af _) (by rfl)) (by decide) (by decide) (by rfl) (by rfl)) (@aa _ _ _ _ _ (@bp _ _ _ _ _ _ _ _ _ bj rfl T.tuple (by decide +kernel) (@aa _ _ _ _ _ (@pv _ 3 _ _ (by rfl) (by trivial) (by decide) (by decide)) (@af _) (by rfl)) (by decide) (by decide) (by rfl) (by rfl)) (@af _) (by rfl)) (by rfl)) (by decide) (by rfl) (by rfl)) (by intro _; rfl)))))) (@ao _ _ _ (@aD _ _ _ _ (@iQ _ _ _ _))) (@aS _)) (@ag _ _ _ _ _ (@bv _ _ _ _ _ _ _ _ (@PW.pt _ _ _ (@iO _ _ _ _ _ _ _ (@aI _ _ _ _ _ _ _ _ pM (@aT _ _ _ _ _ _ _ _ _ cH rfl T.len (by decide +kernel) (@aa _ _ _ _ _ (@pv _ 6 _ _ (by rfl) (by trivial) (by decide) (by decide)) (@af _) (by rfl)) (by decide) (by decide) (by rfl) (by rfl)) (@av _ _ _ _ _ _ _ _ _ _ D_law_many hr rfl (@aa _ _ _ _ _ (@pv _ 0 _ _ (by rfl) (by trivial) (by decide) (by decide)) (@aa _ _ _ _ _ (@pv _ 1 _ _ (by rfl) (by trivial) (by decide) (by decide)) (@af _) (by rfl)) (by rfl)) (by decide) (by rfl) (by rfl)) (aQ _)) (@gL _ _ _ _ (@aI _ _ _ _ _ _ _ _ pM (@av _ _ _ _ _ _ _ _ _ _ Dsum_worth hr rfl (@aa _ _ _ _ _ (@av _ _ _ _ _ _ _ _ _ _ Dweight hr rfl (@aa _ _ _ _ _ (@pv _ 0 _ _ (by rfl) (by trivial) (by decide) (by decide)) (@af _) (by rfl)) (by decide) (by rfl) (by rfl)) (@aa _ _ _ _ _ (@pv _ 1 _ _ (by rfl) (by trivial) (by decide) (by decide)) (@af _) (by rfl)) (by rfl)) (by decide) (by rfl) (by rfl)) (@aT _ _ _ _ _ _ _ _ _ cH rfl T.len (by decide +kernel) (@aa _ _ _ _ _ (@pv _ 6 _ _ (by rfl) (by trivial) (by decide) (by decide)) (@af _) (by rfl)) (by decide) (by decide) (by rfl) (by rfl)) (aQ _))))) (@ao _ _ _ (@aD _ _ _ _ (@iQ _ _ _ _))) (@aS _)) (@ag _ _ _ _ _ (@aB _ _ (7) _ _ _ _ nd rfl (Or.inl rfl) (@bp _ _ _ _ _ _ _ _ _ jk rfl T.list (by decide +kernel) (@aa _ _ _ _ _ (@pv _ 3 _ _ (by rfl) (by trivial) (by decide) (by decide)) (@af _) (by rfl)) (by decide) (by decide) (by rfl) (by rfl)) (by rfl) (by trivial)) (@ag _ _ _ _ _ (@aB _ _ (8) _ _ _ _ nd rfl (Or.inl rfl) (@av _ _ _ _ _ _ _ _ _ _ Draised hr rfl (@aa _ _ _ _ _ (@pv _ 0 _ _ (by rfl) (by trivial) (by decide) (by decide)) (@aa _ _ _ _ _ (@pv _ 5 _ _ (by rfl) (by trivial) (by decide) (by decide)) (@aa _ _ _ _ _ (@pv _ 7 _ _ (by rfl) (by trivial) (by decide) (by decide)) (@af _) (by rfl)) (by rfl)) (by rfl)) (by decide) (by rfl) (by rfl)) (by rfl) (by trivial)) (@ag _ _ _ _ _ (@bv _ _ _ _ _ _ _ _ (@PW.pt _ _ _ (@iO _ _ _ _ _ _ _ (@fX _ _ _ _ (@dP _ _ _ (@av _ _ _ _ _ _ _ _ _ _ D_law_alike hr rfl (@aa _ _ _ _ _ (@pv _ 8 _ _ (by rfl) (by trivial) (by decide) (by decide)) (@aa _ _ _ _ _ (@pv _ 4 _ _ (by rfl) (by trivial) (by decide) (by decide)) (@af _) (by rfl)) (by rfl)) (by decide) (by rfl) (by rfl)) (by intro _; rfl))) (@iO _ _ _ _ _ _ _ (@aI _ _ _ _ _ _ _ _ (rG hu150) (@pv _ 7 _ _ (by rfl) (by trivial) (by decide) (by decide)) (@pv _ 3 _ _ (by rfl) (by trivial) (by decide) (by decide)) (aQ _)) (@gL _ _ _ _ (@aI _ _ _ _ _ _ _ _ (uj hu8) (@pv _ 5 _ _ (by rfl) (by trivial) (by decide) (by decide)) (@pv _ 1 _ _ (by rfl) (by trivial) (by decide) (by decide)) (aQ _)))))) (@ao _ _ _ (@aD _ _ _ _ (@iQ _ _ _ _))) (@aS _)) (@ag _ _ _ _ _ (@cC _ _ _ _ (@gr _ _ _ _ _ _ _ _ _ _ _ _ PySem.F.plainAttrs_list PySem.F.slot_list_append PySem.F.type_list_append ck (@pv _ 6 _ _ (by rfl) (by trivial) (by decide) (by decide)) (@aa _ _ _ _ _ (@ae _ _ _ _) (@af _) (by rfl)) (by rfl) (by rfl) (by rfl) (by rfl) (by rfl)) (by rfl)) (@ag _ _ _ _ _ (@cC _ _ _ _ (@jE _ _ _ _ _ _ _ _ _ PySem.F.plainAttrs_list PySem.F.slot_list_clear PySem.F.type_list_clear qv (@pv _ 7 _ _ (by rfl) (by trivial) (by decide) (by decide)) (by rfl) (by rfl)) (by rfl)) (@ao _ _ _ (@aD _ _ _ _ (@ku _ _ _ _ _ _ _ (@fu _ _ _ _ _ _ _ _ (sv hu150) (@av _ _ _ _ _ _ _ _ _ _ Dlaid hr rfl (@aa _ _ _ _ _ (@pv _ 4 _ _ (by rfl) (by trivial) (by decide) (by decide)) (@af _) (by rfl)) (by decide) (by rfl) (by rfl)) (@pv _ 3 _ _ (by rfl) (by trivial) (by decide) (by decide)) (aQ _)) (@ku _ _ _ _ _ _ _ (@av _ _ _ _ _ _ _ _ _ _ D_law_alike hr rfl (@aa _ _ _ _ _ (@pv _ 8 _ _ (by rfl) (by trivial) (by decide) (by decide)) (@aa _ _ _ _ _ (@pv _ 4 _ _ (by rfl) (by trivial) (by decide) (by decide)) (@af _) (by rfl)) (by rfl)) (by decide) (by rfl) (by rfl)) (@pI _ _ _ _ _ (@fu _ _ _ _ _ _ _ _ (uD hu150) (@av _ _ _ _ _ _ _ _ _ _ Draised hr rfl (@aa _ _ _ _ _ (@pv _ 0 _ _ (by rfl) (by trivial) (by decide) (by decide)) (@aa _ _ _ _ _ (@pv _ 5 _ _ (by rfl) (by trivial) (by decide) (by decide)) (@aa _ _ _ _ _ (@pv _ 3 _ _ (by rfl) (by trivial) (by decide) (by decide)) (@af _) (by rfl)) (by rfl)) (by rfl)) (by decide) (by rfl) (by rfl)) (@pv _ 4 _ _ (by rfl) (by trivial) (by decide) (by decide)) (aQ _)))))))))))))))))), ?_⟩
 obtain ⟨p1, c0, c1⟩ := bK hn kg
 refine ⟨Nat.zero_le _, fun b hb => ?_⟩
 have q0 := ah hb (.lst [])
 have ab : a ≠ b := fun e => by obtain ⟨_, h⟩ := st; rw [e, hb] at h; cases h
 have db : d ≠ b := ap hd hb
 have da : d ≠ a := fun e => by obtain ⟨_, h⟩ := st; rw [e, h] at hd; cases hd
 refine ⟨_, rfl, _, rfl, _, rfl, _, rfl, v, d, a, b, k, nums, [], rfl, R.mono q0, q0 _ _ hd, hn, ab, (let ⟨m, e⟩ := st; ⟨m, q0 _ _ e⟩), ad, k12, kg, r600, by simp; omega, fun H1 w1 x s1 st1 hb1 R1 vl => ?_⟩
 rw [List.nil_append] at hb1
 obtain ⟨lx, lp⟩ := vl.len hn kg
 have ix := vl.iv
 have tt1 : cO H H1 := (az.tups q0).trans (by obtain ⟨m, e⟩ := st; exact s1.tups (q0 _ _ e) ad)
 have d1 : H1 d = some (.dK (dk nums)) := s1 _ _ da db (q0 _ _ hd)
 have S1 : bA a H H1 := fun c o n e => s1 c o n (ap e hb) (q0 _ _ e)
 generalize hns : nos (pre x) = ns at hb1 lx
 have l600 : ns.length <= 600 := by omega
 have p5000 : (pre x).length <= 5000 := by omega
 refine ⟨_, rfl, d, _, rfl, .of d1, fun g hg => ?_⟩
 have q2 := ah hg (.dK (dk nums))
 refine ⟨_, rfl, w1, x, _, rfl, R1.mono q2, ix, p5000, fun H3 l s3 hl0 hl3 => ?_⟩
 rw [hns] at hl3
 have S3 := q2.trans s3
 have b3 := S3 _ _ hb1
 refine ⟨_, rfl, .ref l, _, _, _, rfl, cY.lst hl3, qY K (.lst []), _, rfl, ?_⟩
 have len1 : (pre (.tup (ns.map Dv.int))).length <= 5000 := by rw [pL]; omega
 have rt : ∀ {H' : Hp} {t : Addr}, H' t = some (.tup (ns.map V.int)) -> Rep H' (.tup (ns.map Dv.int)) (.ref t) := fun h => by
  simp only [Rep]
  exact ⟨_, _, rfl, h, gc ns⟩
 have rl : ∀ {H' : Hp} {t : Addr}, H' t = some (.lst (ns.map V.int)) -> Rep H' (.lst (ns.map Dv.int)) (.ref t) := fun h => by
  simp only [Rep]
  exact ⟨_, _, rfl, h, gc ns⟩
 have pls : ∀ d ∈ ns.map Dv.int, L2.Pl 2 d := fun d hd => by obtain ⟨i, _, rfl⟩ := List.mem_map.mp hd; exact .int
 refine eR ⟨_, rfl, l, _, rfl, .inl ⟨SqL.of hl3, fun t1 ht1 => ⟨_, rfl, b, _, rfl, .inl ⟨SqL.of (ah ht1 _ _ _ b3), fun t2 ht2 => ?_⟩⟩⟩⟩
 have u1 := ah ht1 (.tup (ns.map V.int))
 have u2 := ah ht2 (.tup (ns.map V.int))
 refine ⟨.ref t1, .ref t2, .tup (ns.map .int), rfl, rt (u2 _ _ ad), rt ad, (rV ns).up (by decide), len1, fun H4 s4 => ⟨_, rfl, eR ?_⟩⟩
 have S4 : az H1 H4 := S3.trans (u1.trans (u2.trans s4))
 have l4 : H4 l = some (.lst (ns.map V.int)) := s4 _ _ (u2 _ _ (u1 _ _ hl3))
 refine ⟨_, rfl, l, _, rfl, .inl (SqL.of l4), _, rfl, _, rfl, v, d, k, nums, rfl, Kd.tupS (tt1.trans (az.tups S4)) R, k12, kg, hn, S4 _ _ d1, fun H5 s5 => ⟨rfl, _, rfl, ?_⟩⟩
 rw [show (!decide (V.int (((ns.map V.int).length : Nat) : Int) = V.int (cnt nums k))) = false by rw [List.length_map, lx]; simp]
 have S5 := S4.trans s5
 refine eR ⟨_, rfl, v, k, rfl, Kd.tupS (tt1.trans (az.tups S5)) R, k12, k12, kg, tk, fun H6 u m s6 Rm km lm em => ?_⟩
 have S6 := S5.trans s6
 obtain ⟨_, c2⟩ := jl (m := m) fun p hp => (km p hp).1
 have b2 : sw (pw fun _ => 1) m < 2 ^ 64 := by
  rw [em]
  have h1 := (hU kg).2
  have h2 := (p18 (a := k.size) (b := 12) k12).1
  have h3 : (18 : Int) ^ 12 < 2 ^ 64 := by decide
  omega
 refine ⟨_, rfl, u, d, m, nums, rfl, Rm, fun p hp => ⟨(km p hp).1, by have := c2 p hp; omega, (km p hp).2.up k12⟩, by omega, hn, S6 _ _ d1, fun H7 s7 => ?_⟩
 have S7 := S6.trans s7
 have l7 := (s5.trans (s6.trans s7)) _ _ l4
 refine ⟨_, rfl, l, _, rfl, .inl (SqL.of l7), rfl, _, rfl, ?_⟩
 rw [show (!decide (V.int (sw (pw (tm nums)) m) = V.int (((ns.map V.int).length : Nat) : Int))) = false by rw [List.length_map, lx, em, jr]; simp]
 refine eR ?_
 refine ⟨_, rfl, b, _, rfl, .inl (SqL.of (S7 _ _ hb1)), fun h hh => ?_⟩
 have u8 := ah hh (.lst (ns.map V.int))
 have S8 := S7.trans u8
 have g8 : upd H7 h (.lst (ns.map V.int)) g = some (.dK (dk nums)) := u8 _ _ ((u1.trans (u2.trans (s4.trans (s5.trans (s6.trans s7))))) _ _ (s3 _ _ ad))
 refine ⟨_, rfl, _, rfl, _, rfl, v, g, h, k, nums, x, rfl, Kd.tupS (tt1.trans (az.tups S8)) R, g8, hn, by rw [hns]; exact ad, k12, k12, kg, r600, vl, fun H9 w2 s9 R9 => ?_⟩
 have S9 := S8.trans s9
 have h9 := s9 _ _ (ad (H := H7) (a := h) (o := .lst (ns.map V.int)))
 have g9 := s9 _ _ g8
 have l9 := s9 _ _ (u8 _ _ l7)
 have ix14 : Iv 14 x := ix.up (by omega)
 refine ⟨_, rfl, _, rfl, w2, w1, x, rfl, R9, R1.mono S9, ix14, p5000, fun H10 s10 => ⟨_, rfl, eR ⟨_, rfl, _, rfl, 2, ns.map .int, pls, by decide, rl (s10 _ _ h9), rl (s10 _ _ (S9 _ _ hb1)), _, rfl, eR ⟨_, rfl, _, rfl, g, d, dk nums, rfl, rfl, .of (s10 _ _ g9), .of (s10 _ _ (S9 _ _ d1)), fun p hp => ?_, _, rfl, eR ?_⟩⟩⟩⟩
 ·obtain ⟨r, _, rfl⟩ := List.mem_map.mp hp
  exact .inr ⟨_, rfl⟩
 have S10 := S9.trans s10
 have l10 := s10 _ _ l9
 have h10 := s10 _ _ h9
 have hl1 : H1 l = none := q2.free hl0
 have lh : l ≠ h := fun e => by rw [e] at l7; rw [hh] at l7; cases l7
 have bl : b ≠ l := fun e => by rw [<- e, hb1] at hl1; cases hl1
 have bh : b ≠ h := fun e => by have := S7 _ _ hb1; rw [e, hh] at this; cases this
 have hh1 : H1 h = none := S7.free hh
 refine ⟨_, rfl, .inl ⟨rfl, _, SqL.of l10⟩, l, _, _, rfl, rfl, l10, by rw [List.length_map, sizeLine_eq]; omega, ?_⟩
 have s11 := bA.upd H10 l (.lst (ns.map V.int ++ [.int 0]))
 have t11 : cO H10 _ := s11.tups l10
 refine ⟨_, rfl, .inl ⟨rfl, _, SqL.of (s11 _ _ (Ne.symm lh) h10)⟩, h, _, rfl, rfl, s11 _ _ (Ne.symm lh) h10, ?_⟩
 have s12 := bA.upd (upd H10 l (.lst (ns.map V.int ++ [.int 0]))) h (.lst [])
 have t12 := t11.trans (s12.tups (s11 _ _ (Ne.symm lh) h10))
 generalize hH : upd (upd H10 l (.lst (ns.map V.int ++ [.int 0]))) h (.lst []) = H12 at s12 t12 ⊢
 have S12 : az H1 H12 := fun c o e => s12 c o (ap e hh1) (s11 c o (ap e hl1) (S10 c o e))
 have g12 : H12 g = some (.dK (dk nums)) := s12 _ _ (gU g8 ad (fun z => nomatch z)) (s11 _ _ (gU (s10 _ _ g9) l10 (fun z => nomatch z)) (s10 _ _ g9))
 have R12 : Rep H12 x w2 := bI t12 ix14.pl (R9.mono s10)
 refine ⟨_, rfl, w1, x, _, rfl, R1.mono S12, ix, p5000, fun H13 l2 s13 hl2 h2 => ?_⟩
 rw [hns] at h2
 have S13 := S12.trans s13
 refine ⟨_, rfl, 2, ns.map .int, pls, by decide, rl h2, rl (S13 _ _ hb1), _, rfl, fY ?_⟩
 refine ⟨_, rfl, _, rfl, w2, w1, x, rfl, R12.mono s13, R1.mono S13, ix14, p5000, fun H14 s14 => ⟨_, rfl, fY ?_⟩⟩
 have S14 := S13.trans s14
 refine ⟨_, rfl, _, rfl, _, rfl, v, g, b, k, nums, x, rfl, Kd.tupS (tt1.trans (az.tups S14)) R, (s13.trans s14) _ _ g12, hn, by rw [hns]; exact S14 _ _ hb1, k12, k12, kg, r600, vl, fun H15 w3 s15 R15 => ⟨_, rfl, ?_⟩⟩
 have fin := q H15 (S1.trans (az.b a (S14.trans s15)))
 have R1' := R1.mono (S14.trans s15)
 cases vl with
 | @whole i =>
  obtain rfl : w3 = .int i := by simpa only [Rep] using R15
  obtain rfl : w1 = .int i := by simpa only [Rep] using R1'
  exact .inl ⟨rfl, by rw [decide_eq_true rfl]; exact fin⟩
 | @place c ps i =>
  obtain rfl : w3 = .int i := by simpa only [Rep] using R15
  obtain rfl : w1 = .int i := by simpa only [Rep] using R1'
  exact .inl ⟨rfl, by rw [decide_eq_true rfl]; exact fin⟩
 | @row c ps j ds _ _ => exact .inr ⟨14, ds, ds, ix14.pl, ix14.pl, by decide, R15, R1', fun bb hb' => by rw [hb'.mpr rfl]; exact fin⟩
 | @pair i j y z _ _ => exact .inr ⟨14, [y, z], [y, z], ix14.pl, ix14.pl, by decide, R15, R1', fun bb hb' => by rw [hb'.mpr rfl]; exact fin⟩
end
abbrev fN : Stmt := top 31
def ng (K : PySem.W.Frag) : Sp := fun vs H Q _ => ∃ (a : Addr) (ns : List Int), vs = [.ref a] /\ SqL K H a (ns.map V.int) /\ ns.length <= 63 /\ ∀ H', Q (.bl true) H'
section
variable {P : Program} {w : World} {K : PySem.W.Frag} {mg : Str -> Option Value} {base : Heap}
theorem pT : aP ["_law_script", "_law_free", "_law_k", "_law_cell", "_law_mixed_here", "_law_number", "_law_kind_here", "_law_numbers_here"] ["_law_script"] (aj fN) := ⟨rfl, rfl, rfl, by decide +kernel, rfl, by decide +kernel, by decide +kernel⟩
theorem uc {f : Addr} {fd : FuncData} {k0 : Nat} (F : Fun K "law" "law" fN f fd) (T : Txt K mg) (D_law_mixed : Def P w K mg base k0 "_law_mixed" ["_law_cell", "_law_k"] jT) (D_law_kind : Def P w K mg base k0 "_law_kind" ["_law_number"] mM) (D_law_numbers : Def P w K mg base k0 "_law_numbers" ["_law_cell", "_law_kind_here"] ga) (D_law_rows : Def P w K mg base k0 "_law_rows" ["_law_kind_here", "_law_numbers_here"] (eQ rws 12)) (D_law_right : Def P w K mg base k0 "_law_right" ["_law_kind_here", "_law_numbers_here", "_law_state"] jZ) :
  bg P w K mg base CX0 (k0 + 1) f fd ["_law_script"] (ng K) := by
 have nd : (["_law_script", "_law_free", "_law_k", "_law_cell", "_law_mixed_here", "_law_number", "_law_kind_here", "_law_numbers_here"] : List Str).Nodup := pT.nd
 refine F.ok pT (fun vs H Q E h => ?_) (fun cdv A outer s H vs Q E hr h => ?_)
 ·obtain ⟨a, ns, rfl, _⟩ := h
  rfl
 obtain ⟨a, ns, rfl, hS, h63, q⟩ := h
 refine ⟨_, (@ag _ _ _ _ _ (@aB _ _ (1) _ _ _ _ nd rfl (Or.inl rfl) (@fu _ _ _ _ _ _ _ _ bM (@aq _ _ _ _ _ _ _ _ bm (@aT _ _ _ _ _ _ _ _ _ (eF rfl) rfl T.sum (by decide +kernel) (@aa _ _ _ _ _ (@dU _ _ _ _ _ _ _ _ _ _ nr (@pv _ 0 _ _ (by rfl) (by trivial) (by decide) (by decide)) (@gG _) (@eJ _ _ _ (@ae _ _ _ _))) (@af _) (by rfl)) (by decide) (by decide) (by rfl) (by rfl)) (@ae _ _ _ _)) (@ae _ _ _ _) (aQ _)) (by rfl) (by trivial)) (@ag _ _ _ _ _ (@cZ _ _ _ _ _ _ _ _ PassesOwn.never rfl (@sM _ _ _ _ _ _ _ _ rfl T.enumerate (@aa _ _ _ _ _ (@aq _ _ _ _ _ _ _ _ sB (@cL _ _ _ _ (@aa _ _ _ _ _ (@ae _ _ _ _) (@af _) (by rfl))) (@pv _ 0 _ _ (by rfl) (by trivial) (by decide) (by decide))) (@af _) (by rfl)) (by rfl)) (@cp _ _ _ _ _ _ rfl (@aN _ _ _ _ _ (@aL _ _ (2) _ nd rfl (Or.inl rfl) (by trivial)) (@aN _ _ _ _ _ (@aL _ _ (3) _ nd rfl (Or.inl rfl) (by trivial)) (@bN _) (by rfl)) (by rfl)) (by rfl) (by rfl)) (@ag _ _ _ _ _ (@aB _ _ (4) _ _ _ _ nd rfl (Or.inl rfl) (@av _ _ _ _ _ _ _ _ _ _ D_law_mixed hr rfl (@aa _ _ _ _ _ (@av _ _ _ _ _ _ _ _ _ _ D_law_mixed hr rfl (@aa _ _ _ _ _ (@pv _ 3 _ _ (by rfl) (by trivial) (by decide) (by decide)) (@aa _ _ _ _ _ (@pv _ 2 _ _ (by rfl) (by trivial) (by decide) (by decide)) (@af _) (by rfl)) (by rfl)) (by decide) (by rfl) (by rfl)) (@aa _ _ _ _ _ (@aq _ _ _ _ _ _ _ _ bo (@pv _ 2 _ _ (by rfl) (by trivial) (by decide) (by decide)) (@ae _ _ _ _)) (@af _) (by rfl)) (by rfl)) (by decide) (by rfl) (by rfl)) (by rfl) (by trivial)) (@ag _ _ _ _ _ (@aB _ _ (5) _ _ _ _ nd rfl (Or.inl rfl) (@aq _ _ _ _ _ _ _ _ bo (@aq _ _ _ _ _ _ _ _ bF (@pv _ 4 _ _ (by rfl) (by trivial) (by decide) (by decide)) (@ae _ _ _ _)) (@av _ _ _ _ _ _ _ _ _ _ D_law_mixed hr rfl (@aa _ _ _ _ _ (@pv _ 4 _ _ (by rfl) (by trivial) (by decide) (by decide)) (@aa _ _ _ _ _ (@aq _ _ _ _ _ _ _ _ bo (@pv _ 2 _ _ (by rfl) (by trivial) (by decide) (by decide)) (@ae _ _ _ _)) (@af _) (by rfl)) (by rfl)) (by decide) (by rfl) (by rfl))) (by rfl) (by trivial)) (@ag _ _ _ _ _ (@bv _ _ _ _ _ _ _ _ (@PW.pt _ _ _ (@qU _ _ _ _ _ _ _ (@dP _ _ _ (@pv _ 1 _ _ (by rfl) (by trivial) (by decide) (by decide)) (by intro _; rfl)) (@nS _ _ _ _ (@aI _ _ _ _ _ _ _ _ ia (@pv _ 3 _ _ (by rfl) (by trivial) (by decide) (by decide)) (@aq _ _ _ _ _ _ _ _ fW (@ae _ _ _ _) (@ae _ _ _ _)) (aQ _))))) (@ao _ _ _ (@aB _ _ (5) _ _ _ _ nd rfl (Or.inl rfl) (@aq _ _ _ _ _ _ _ _ bm (@pv _ 3 _ _ (by rfl) (by trivial) (by decide) (by decide)) (@aq _ _ _ _ _ _ _ _ fW (@ae _ _ _ _) (@ae _ _ _ _))) (by rfl) (by trivial))) (@aS _)) (@ag _ _ _ _ _ (@aB _ _ (6) _ _ _ _ nd rfl (Or.inl rfl) (@av _ _ _ _ _ _ _ _ _ _ D_law_kind hr rfl (@aa _ _ _ _ _ (@aq _ _ _ _ _ _ _ _ br (@pv _ 5 _ _ (by rfl) (by trivial) (by decide) (by decide)) (@ae _ _ _ _)) (@af _) (by rfl)) (by decide) (by rfl) (by rfl)) (by rfl) (by trivial)) (@ag _ _ _ _ _ (@aB _ _ (7) _ _ _ _ nd rfl (Or.inl rfl) (@av _ _ _ _ _ _ _ _ _ _ D_law_numbers hr rfl (@aa _ _ _ _ _ (@aq _ _ _ _ _ _ _ _ bm (@pv _ 5 _ _ (by rfl) (by trivial) (by decide) (by decide)) (@ae _ _ _ _)) (@aa _ _ _ _ _ (@pv _ 6 _ _ (by rfl) (by trivial) (by decide) (by decide)) (@af _) (by rfl)) (by rfl)) (by decide) (by rfl) (by rfl)) (by rfl) (by trivial)) (@ao _ _ _ (@bv _ _ _ _ _ _ _ _ (@PW.pt _ _ _ (@qU _ _ _ _ _ _ _ (@aI _ _ _ _ _ _ _ _ vH (@av _ _ _ _ _ _ _ _ _ _ D_law_rows hr rfl (@aa _ _ _ _ _ (@pv _ 6 _ _ (by rfl) (by trivial) (by decide) (by decide)) (@aa _ _ _ _ _ (@pv _ 7 _ _ (by rfl) (by trivial) (by decide) (by decide)) (@af _) (by rfl)) (by rfl)) (by decide) (by rfl) (by rfl)) (@ae _ _ _ _) (aQ _)) (@nS _ _ _ _ (@fX _ _ _ _ (@dP _ _ _ (@av _ _ _ _ _ _ _ _ _ _ D_law_right hr rfl (@aa _ _ _ _ _ (@pv _ 6 _ _ (by rfl) (by trivial) (by decide) (by decide)) (@aa _ _ _ _ _ (@pv _ 7 _ _ (by rfl) (by trivial) (by decide) (by decide)) (@aa _ _ _ _ _ (@cL _ _ _ _ (@aa _ _ _ _ _ (@aq _ _ _ _ _ _ _ _ bo (@aq _ _ _ _ _ _ _ _ bF (@pv _ 4 _ _ (by rfl) (by trivial) (by decide) (by decide)) (@ae _ _ _ _)) (@pv _ 2 _ _ (by rfl) (by trivial) (by decide) (by decide))) (@af _) (by rfl))) (@af _) (by rfl)) (by rfl)) (by rfl)) (by decide) (by rfl) (by rfl)) (by intro _; rfl)))))) (@ao _ _ _ (@aD _ _ _ _ (@iQ _ _ _ _))) (@aS _)))))))) (by intro _; rfl)) (@ao _ _ _ (@aD _ _ _ _ (@iQ _ _ _ _))))), ?_⟩
 refine ⟨_, rfl, _, rfl, a, _, rfl, hS, fun p hp => ?_⟩
 have e1 : cG (ns.map V.int) none (some 1) = (ns.take (min 1 ns.length)).map V.int := by
  unfold cG
  rw [List.map_take, show HT.sIx (ns.map V.int).length (ns.map V.int).length (some 1) = min 1 (ns.map V.int).length from HT.sIx_nat _ _ 1, List.length_map]
  rfl
 rw [e1]
 have q1 := ah hp (.lst ((ns.take (min 1 ns.length)).map V.int))
 refine ⟨p, _, rfl, SqL.of ad, _, _, rfl, rfl, mp (by decide), rfl, ?_⟩
 refine gnm ?_
 dsimp only
 generalize (decide ((fun i j => V.int (i % j)) (ns.take (min 1 ns.length)).sum 2 = V.int 1)) = free
 refine ⟨z1, fun L hL => ⟨_, rfl, L, a, _, _, rfl, rfl, SqL.of ad, (q1.trans (ah hL _)).seq hS, by rw [List.length_map, sizeLine_eq]; show 1 + ns.length <= _; omega, fun G hG => ⟨G, rfl, ⟨_, SqL.of ad⟩, ?_⟩⟩⟩
 have q2 := ah hL (.lst [V.int 5])
 have q3 := ah hG (.lst ([V.int 5] ++ ns.map V.int))
 have hG3 : upd (upd (upd H p (.lst ((ns.take (min 1 ns.length)).map V.int))) L (.lst [V.int 5])) G (.lst ([V.int 5] ++ ns.map V.int)) G = some (.lst ([V.int 5] ++ ns.map V.int)) := ad
 generalize upd (upd (upd H p (.lst ((ns.take (min 1 ns.length)).map V.int))) L (.lst [V.int 5])) G (.lst ([V.int 5] ++ ns.map V.int)) = H0 at hG3 ⊢
 refine qK (xs := [V.int 5] ++ ns.map V.int) (fun i σ H' => ∃ (o2 o3 o4 o5 o6 o7 : Option V), σ = [some (.ref a), some (.bl free), o2, o3, o4, o5, o6, o7] /\ az H0 H') ⟨_, _, _, _, _, _, rfl, az.refl _⟩ (fun i σ H' _ ⟨_, _, _, _, _, _, _, sx⟩ => SqL.of (sx _ _ hG3)) ?_ ?_
 ·rintro i x σ H1 pp hx ⟨o2, o3, o4, o5, o6, o7, rfl, s1⟩ hp'
  obtain ⟨c, rfl⟩ : ∃ c, x = V.int c := by
   rw [show ([V.int 5] ++ ns.map V.int) = ((5 : Int) :: ns).map V.int from rfl, List.getElem?_map] at hx
   obtain ⟨y, _, e⟩ := Option.map_eq_some_iff.mp hx
   exact ⟨y, e.symm⟩
  have u1 := ah hp' (.tup [.int i, .int c])
  refine ⟨pp, _, rfl, SqT.of ad, rfl, _, _, rfl, _, _, rfl, rfl, ?_⟩
  refine ⟨_, rfl, _, rfl, c, i, rfl, fun r r0 r1 => ⟨_, rfl, _, _, rfl, rfl, r, _, rfl, fun r2 r20 r21 => ?_⟩⟩
  refine ⟨_, rfl, _, _, rfl, rfl, .inr ⟨by decide, by decide⟩, _, rfl, _, rfl, _, _, rfl, rfl, r2, _, rfl, fun r3 r30 r31 => ⟨_, _, rfl, rfl, ?_⟩⟩
  refine gnm ?_
  dsimp only
  have S1 := s1.trans u1
  refine fk (fun σ H' => H' = upd H1 pp (.tup [.int i, .int c]) /\ ∃ (n : Int) (o6 o7 : Option V), σ = [some (.ref a), some (.bl free), some (.int i), some (.int c), some (.int r2), some (.int n), o6, o7]) ?_ (fun N hN => ?_)
  ·rintro σ H2 ⟨rfl, n, o6, o7, rfl⟩
   refine ⟨_, rfl, _, _, rfl, rfl, ⟨by decide, by decide⟩, _, rfl, fun H3 v k s3 R3 g3 k12 tk => ?_⟩
   have mn := md n 92160 (by decide)
   refine ⟨_, rfl, _, _, rfl, rfl, mp (by decide), _, rfl, n % 92160, v, k, rfl, mn.1, mn.2, R3, k12, g3, fun H4 d nums s4 hd0 d4 hn => ?_⟩
   refine ⟨_, rfl, _, rfl, v, d, k, nums, rfl, R3.mono s4, k12, g3, hn, d4, fun H5 s5 => ⟨_, _, rfl, rfl, _, rfl, aW (fun h => ?_) (fun h => ?_)⟩⟩
   ·have h' : rws nums k <= 600 := of_decide_eq_true h
    refine ⟨_, rfl, _, rfl, _, rfl, _, _, rfl, rfl, .inr ⟨by decide, by decide⟩, _, rfl, _, _, rfl, rfl, z1, fun L2 hL2 => ?_⟩
    have u6 := ah hL2 (.lst [V.int (r2 * 7 + i)])
    refine ⟨v, d, L2, k, nums, rfl, ((R3.mono s4).mono s5).mono u6, u6 _ _ (s5 _ _ d4), hn, ⟨_, ad⟩, k12, g3, tk, h', fun H7 s7 => ⟨_, rfl, eR ?_⟩⟩
    have S5 := S1.trans (s3.trans (s4.trans s5))
    exact ⟨_, _, _, _, _, _, rfl, fun e o he => s7 e o (ap (S5 _ _ he) hL2) (u6 _ _ (S5 _ _ he))⟩
   ·exact ⟨_, _, _, _, _, _, rfl, S1.trans (s3.trans (s4.trans s5))⟩
  ·have stay : N [some (.ref a), some (.bl free), some (.int i), some (.int c), some (.int r2), some (.int (r2 * 2147483647 + r3)), o6, o7] (upd H1 pp (.tup [.int i, .int c])) := hN _ _ ⟨rfl, _, _, _, rfl⟩
   refine ⟨_, rfl, _, rfl, ?_⟩
   cases free with
   | false => exact eR (tnx stay)
   | true =>
    refine fY ⟨_, rfl, _, _, rfl, rfl, ⟨by decide, by decide, by decide⟩, _, _, rfl, rfl, _, rfl, aW (fun h => ?_) (fun h => tnx stay)⟩
    exact ⟨_, rfl, _, _, rfl, rfl, ⟨by decide, by decide, by decide⟩, _, _, rfl, rfl, mp (by decide), hN _ _ ⟨rfl, _, _, _, rfl⟩⟩
 ·rintro σ H1 ⟨o2, o3, o4, o5, o6, o7, rfl, s1⟩
  exact q H1
end
theorem us1 {p : List Value -> Prop} (h : ∀ x0, p [x0]) : ∀ us : List Value, us.length = 1 -> p us
 | [x0], _ => h x0
theorem us2 {p : List Value -> Prop} (h : ∀ x0 x1, p [x0, x1]) : ∀ us : List Value, us.length = 2 -> p us
 | [x0, x1], _ => h x0 x1
theorem us3 {p : List Value -> Prop} (h : ∀ x0 x1 x2, p [x0, x1, x2]) : ∀ us : List Value, us.length = 3 -> p us
 | [x0, x1, x2], _ => h x0 x1 x2
theorem us4 {p : List Value -> Prop} (h : ∀ x0 x1 x2 x3, p [x0, x1, x2, x3]) : ∀ us : List Value, us.length = 4 -> p us
 | [x0, x1, x2, x3], _ => h x0 x1 x2 x3
theorem all_mk {l : PySem.W.OpenLaw} {w : World} {K : PySem.W.Frag} {h : Heap} {mg : Str -> Option Value} {fa f1 f2 f3 f4 f5 f6 f7 f8 f9 f10 f11 f12 f13 f14 f15 f16 f17 f18 f19 f20 f21 f22 f23 f24 f25 f26 : Addr} (X : K.In h) (G : h.Ns mainGlobals mg) (hfa : mg "law" = some (.ref fa))
  {od1 an1 od2 an2 od3 an3 od4 an4 od5 an5 od6 an6 od7 an7 od8 an8 od9 an9 od10 an10 od11 an11 od12 an12 od13 an13 od14 an14 od15 an15 od16 an16 od17 an17 od18 an18 od19 an19 od20 an20 od21 an21 od22 an22 od23 an23 od24 an24 od25 an25 od26 an26 : Option Addr} {sl1 sl2 sl3 sl4 sl5 sl6 sl7 sl8 sl9 sl10 sl11 sl12 sl13 sl14 sl15 sl16 sl17 sl18 sl19 sl20 sl21 sl22 sl23 sl24 sl25 sl26 : Array (Option Value)}
  {oc1 kV1 dc1 pm1 cd1 ct1 oc2 kV2 dc2 pm2 cd2 ct2 oc3 kV3 dc3 pm3 cd3 ct3 oc4 kV4 dc4 pm4 cd4 ct4 oc5 kV5 dc5 pm5 cd5 ct5 oc6 kV6 dc6 pm6 cd6 ct6 oc7 kV7 dc7 pm7 cd7 ct7 oc8 kV8 dc8 pm8 cd8 ct8 oc9 kV9 dc9 pm9 cd9 ct9 oc10 kV10 dc10 pm10 cd10 ct10 oc11 kV11 dc11 pm11 cd11 ct11 oc12 kV12 dc12 pm12 cd12 ct12 oc13 kV13 dc13 pm13 cd13 ct13 oc14 kV14 dc14 pm14 cd14 ct14 oc15 kV15 dc15 pm15 cd15 ct15 oc16 kV16 dc16 pm16 cd16 ct16 oc17 kV17 dc17 pm17 cd17 ct17 oc18 kV18 dc18 pm18 cd18 ct18 oc19 kV19 dc19 pm19 cd19 ct19 oc20 kV20 dc20 pm20 cd20 ct20 oc21 kV21 dc21 pm21 cd21 ct21 oc22 kV22 dc22 pm22 cd22 ct22 oc23 kV23 dc23 pm23 cd23 ct23 oc24 kV24 dc24 pm24 cd24 ct24 oc25 kV25 dc25 pm25 cd25 ct25 oc26 kV26 dc26 pm26 cd26 ct26 : Value}
  (a1 : PySem.W.nsIn K mainGlobals "gathered" = some (some (.ref f1)))
  (l1 : K.lookup f1 = some ⟨oc1, od1, .func (PySem.W.fnOf "gathered" "gathered" (aK bd) (aH bd) (aj bd) .none kV1 dc1 pm1 an1 cd1 ct1), sl1⟩)
  (c1 : PySem.W.codeIn K cd1 "gathered" = true) (k1 : PySem.W.keepIn K (.ref f1) = true)
  (a2 : PySem.W.nsIn K mainGlobals "worth" = some (some (.ref f2)))
  (l2 : K.lookup f2 = some ⟨oc2, od2, .func (PySem.W.fnOf "worth" "worth" (aK eP) (aH eP) (aj eP) .none kV2 dc2 pm2 an2 cd2 ct2), sl2⟩)
  (c2 : PySem.W.codeIn K cd2 "worth" = true) (k2 : PySem.W.keepIn K (.ref f2) = true)
  (a3 : PySem.W.nsIn K mainGlobals "in_order" = some (some (.ref f3)))
  (l3 : K.lookup f3 = some ⟨oc3, od3, .func (PySem.W.fnOf "in_order" "in_order" (aK cf) (aH cf) (aj cf) .none kV3 dc3 pm3 an3 cd3 ct3), sl3⟩)
  (c3 : PySem.W.codeIn K cd3 "in_order" = true) (k3 : PySem.W.keepIn K (.ref f3) = true)
  (a4 : PySem.W.nsIn K mainGlobals "things_in" = some (some (.ref f4)))
  (l4 : K.lookup f4 = some ⟨oc4, od4, .func (PySem.W.fnOf "things_in" "things_in" (aK bO) (aH bO) (aj bO) .none kV4 dc4 pm4 an4 cd4 ct4), sl4⟩)
  (c4 : PySem.W.codeIn K cd4 "things_in" = true) (k4 : PySem.W.keepIn K (.ref f4) = true)
  (a5 : PySem.W.nsIn K mainGlobals "laid" = some (some (.ref f5)))
  (l5 : K.lookup f5 = some ⟨oc5, od5, .func (PySem.W.fnOf "laid" "laid" (aK fU) (aH fU) (aj fU) .none kV5 dc5 pm5 an5 cd5 ct5), sl5⟩)
  (c5 : PySem.W.codeIn K cd5 "laid" = true) (k5 : PySem.W.keepIn K (.ref f5) = true)
  (a6 : PySem.W.nsIn K mainGlobals "count_in" = some (some (.ref f6)))
  (l6 : K.lookup f6 = some ⟨oc6, od6, .func (PySem.W.fnOf "count_in" "count_in" (aK eL) (aH eL) (aj eL) .none kV6 dc6 pm6 an6 cd6 ct6), sl6⟩)
  (c6 : PySem.W.codeIn K cd6 "count_in" = true) (k6 : PySem.W.keepIn K (.ref f6) = true)
  (a7 : PySem.W.nsIn K mainGlobals "raised" = some (some (.ref f7)))
  (l7 : K.lookup f7 = some ⟨oc7, od7, .func (PySem.W.fnOf "raised" "raised" (aK dB) (aH dB) (aj dB) .none kV7 dc7 pm7 an7 cd7 ct7), sl7⟩)
  (c7 : PySem.W.codeIn K cd7 "raised" = true) (k7 : PySem.W.keepIn K (.ref f7) = true)
  (a8 : PySem.W.nsIn K mainGlobals "of_length" = some (some (.ref f8)))
  (l8 : K.lookup f8 = some ⟨oc8, od8, .func (PySem.W.fnOf "of_length" "of_length" (aK bR) (aH bR) (aj bR) .none kV8 dc8 pm8 an8 cd8 ct8), sl8⟩)
  (c8 : PySem.W.codeIn K cd8 "of_length" = true) (k8 : PySem.W.keepIn K (.ref f8) = true)
  (a9 : PySem.W.nsIn K mainGlobals "together" = some (some (.ref f9)))
  (l9 : K.lookup f9 = some ⟨oc9, od9, .func (PySem.W.fnOf "together" "together" (aK cc) (aH cc) (aj cc) .none kV9 dc9 pm9 an9 cd9 ct9), sl9⟩)
  (c9 : PySem.W.codeIn K cd9 "together" = true) (k9 : PySem.W.keepIn K (.ref f9) = true)
  (a10 : PySem.W.nsIn K mainGlobals "product" = some (some (.ref f10)))
  (l10 : K.lookup f10 = some ⟨oc10, od10, .func (PySem.W.fnOf "product" "product" (aK cI) (aH cI) (aj cI) .none kV10 dc10 pm10 an10 cd10 ct10), sl10⟩)
  (c10 : PySem.W.codeIn K cd10 "product" = true) (k10 : PySem.W.keepIn K (.ref f10) = true)
  (a11 : PySem.W.nsIn K mainGlobals "weight" = some (some (.ref f11)))
  (l11 : K.lookup f11 = some ⟨oc11, od11, .func (PySem.W.fnOf "weight" "weight" (aK dw) (aH dw) (aj dw) .none kV11 dc11 pm11 an11 cd11 ct11), sl11⟩)
  (c11 : PySem.W.codeIn K cd11 "weight" = true) (k11 : PySem.W.keepIn K (.ref f11) = true)
  (a12 : PySem.W.nsIn K mainGlobals "to_the" = some (some (.ref f12)))
  (l12 : K.lookup f12 = some ⟨oc12, od12, .func (PySem.W.fnOf "to_the" "to_the" (aK dz) (aH dz) (aj dz) .none kV12 dc12 pm12 an12 cd12 ct12), sl12⟩)
  (c12 : PySem.W.codeIn K cd12 "to_the" = true) (k12 : PySem.W.keepIn K (.ref f12) = true)
  (a13 : PySem.W.nsIn K mainGlobals "product_worth" = some (some (.ref f13)))
  (l13 : K.lookup f13 = some ⟨oc13, od13, .func (PySem.W.fnOf "product_worth" "product_worth" (aK bq) (aH bq) (aj bq) .none kV13 dc13 pm13 an13 cd13 ct13), sl13⟩)
  (c13 : PySem.W.codeIn K cd13 "product_worth" = true) (k13 : PySem.W.keepIn K (.ref f13) = true)
  (a14 : PySem.W.nsIn K mainGlobals "sum_worth" = some (some (.ref f14)))
  (l14 : K.lookup f14 = some ⟨oc14, od14, .func (PySem.W.fnOf "sum_worth" "sum_worth" (aK bS) (aH bS) (aj bS) .none kV14 dc14 pm14 an14 cd14 ct14), sl14⟩)
  (c14 : PySem.W.codeIn K cd14 "sum_worth" = true) (k14 : PySem.W.keepIn K (.ref f14) = true)
  (a15 : PySem.W.nsIn K mainGlobals "_law_mixed" = some (some (.ref f15)))
  (l15 : K.lookup f15 = some ⟨oc15, od15, .func (PySem.W.fnOf "_law_mixed" "_law_mixed" (aK eN) (aH eN) (aj eN) .none kV15 dc15 pm15 an15 cd15 ct15), sl15⟩)
  (c15 : PySem.W.codeIn K cd15 "_law_mixed" = true) (k15 : PySem.W.keepIn K (.ref f15) = true)
  (a16 : PySem.W.nsIn K mainGlobals "_law_length" = some (some (.ref f16)))
  (l16 : K.lookup f16 = some ⟨oc16, od16, .func (PySem.W.fnOf "_law_length" "_law_length" (aK dg) (aH dg) (aj dg) .none kV16 dc16 pm16 an16 cd16 ct16), sl16⟩)
  (c16 : PySem.W.codeIn K cd16 "_law_length" = true) (k16 : PySem.W.keepIn K (.ref f16) = true)
  (a17 : PySem.W.nsIn K mainGlobals "_law_kind" = some (some (.ref f17)))
  (l17 : K.lookup f17 = some ⟨oc17, od17, .func (PySem.W.fnOf "_law_kind" "_law_kind" (aK fS) (aH fS) (aj fS) .none kV17 dc17 pm17 an17 cd17 ct17), sl17⟩)
  (c17 : PySem.W.codeIn K cd17 "_law_kind" = true) (k17 : PySem.W.keepIn K (.ref f17) = true)
  (a18 : PySem.W.nsIn K mainGlobals "_law_worth" = some (some (.ref f18)))
  (l18 : K.lookup f18 = some ⟨oc18, od18, .func (PySem.W.fnOf "_law_worth" "_law_worth" (aK dq) (aH dq) (aj dq) .none kV18 dc18 pm18 an18 cd18 ct18), sl18⟩)
  (c18 : PySem.W.codeIn K cd18 "_law_worth" = true) (k18 : PySem.W.keepIn K (.ref f18) = true)
  (a19 : PySem.W.nsIn K mainGlobals "_law_many" = some (some (.ref f19)))
  (l19 : K.lookup f19 = some ⟨oc19, od19, .func (PySem.W.fnOf "_law_many" "_law_many" (aK gm) (aH gm) (aj gm) .none kV19 dc19 pm19 an19 cd19 ct19), sl19⟩)
  (c19 : PySem.W.codeIn K cd19 "_law_many" = true) (k19 : PySem.W.keepIn K (.ref f19) = true)
  (a20 : PySem.W.nsIn K mainGlobals "_law_rows" = some (some (.ref f20)))
  (l20 : K.lookup f20 = some ⟨oc20, od20, .func (PySem.W.fnOf "_law_rows" "_law_rows" (aK fZ) (aH fZ) (aj fZ) .none kV20 dc20 pm20 an20 cd20 ct20), sl20⟩)
  (c20 : PySem.W.codeIn K cd20 "_law_rows" = true) (k20 : PySem.W.keepIn K (.ref f20) = true)
  (a21 : PySem.W.nsIn K mainGlobals "_law_next" = some (some (.ref f21)))
  (l21 : K.lookup f21 = some ⟨oc21, od21, .func (PySem.W.fnOf "_law_next" "_law_next" (aK gi) (aH gi) (aj gi) .none kV21 dc21 pm21 an21 cd21 ct21), sl21⟩)
  (c21 : PySem.W.codeIn K cd21 "_law_next" = true) (k21 : PySem.W.keepIn K (.ref f21) = true)
  (a22 : PySem.W.nsIn K mainGlobals "_law_value" = some (some (.ref f22)))
  (l22 : K.lookup f22 = some ⟨oc22, od22, .func (PySem.W.fnOf "_law_value" "_law_value" (aK eO) (aH eO) (aj eO) .none kV22 dc22 pm22 an22 cd22 ct22), sl22⟩)
  (c22 : PySem.W.codeIn K cd22 "_law_value" = true) (k22 : PySem.W.keepIn K (.ref f22) = true)
  (a23 : PySem.W.nsIn K mainGlobals "_law_numbers" = some (some (.ref f23)))
  (l23 : K.lookup f23 = some ⟨oc23, od23, .func (PySem.W.fnOf "_law_numbers" "_law_numbers" (aK cJ) (aH cJ) (aj cJ) .none kV23 dc23 pm23 an23 cd23 ct23), sl23⟩)
  (c23 : PySem.W.codeIn K cd23 "_law_numbers" = true) (k23 : PySem.W.keepIn K (.ref f23) = true)
  (a24 : PySem.W.nsIn K mainGlobals "_law_alike" = some (some (.ref f24)))
  (l24 : K.lookup f24 = some ⟨oc24, od24, .func (PySem.W.fnOf "_law_alike" "_law_alike" (aK eI) (aH eI) (aj eI) .none kV24 dc24 pm24 an24 cd24 ct24), sl24⟩)
  (c24 : PySem.W.codeIn K cd24 "_law_alike" = true) (k24 : PySem.W.keepIn K (.ref f24) = true)
  (a25 : PySem.W.nsIn K mainGlobals "_law_right" = some (some (.ref f25)))
  (l25 : K.lookup f25 = some ⟨oc25, od25, .func (PySem.W.fnOf "_law_right" "_law_right" (aK cQ) (aH cQ) (aj cQ) .none kV25 dc25 pm25 an25 cd25 ct25), sl25⟩)
  (c25 : PySem.W.codeIn K cd25 "_law_right" = true) (k25 : PySem.W.keepIn K (.ref f25) = true)
  (a26 : PySem.W.nsIn K mainGlobals "law" = some (some (.ref f26)))
  (l26 : K.lookup f26 = some ⟨oc26, od26, .func (PySem.W.fnOf "law" "law" (aK fN) (aH fN) (aj fN) .none kV26 dc26 pm26 an26 cd26 ct26), sl26⟩)
  (c26 : PySem.W.codeIn K cd26 "law" = true) (k26 : PySem.W.keepIn K (.ref f26) = true)
  (z1 : PySem.W.nsIn K mainGlobals "len" = some none)
  (z2 : PySem.W.nsIn K mainGlobals "isinstance" = some none)
  (z3 : PySem.W.nsIn K mainGlobals "int" = some none)
  (z4 : PySem.W.nsIn K mainGlobals "bool" = some none)
  (z5 : PySem.W.nsIn K mainGlobals "tuple" = some none)
  (z6 : PySem.W.nsIn K mainGlobals "list" = some none)
  (z7 : PySem.W.nsIn K mainGlobals "all" = some none)
  (z8 : PySem.W.nsIn K mainGlobals "zip" = some none)
  (z9 : PySem.W.nsIn K mainGlobals "range" = some none)
  (z10 : PySem.W.nsIn K mainGlobals "enumerate" = some none)
  (z11 : PySem.W.nsIn K mainGlobals "sorted" = some none)
  (z12 : PySem.W.nsIn K mainGlobals "max" = some none)
  (z13 : PySem.W.nsIn K mainGlobals "sum" = some none)
  (z14 : PySem.W.nsIn K mainGlobals "reversed" = some none)
  (z15 : PySem.W.nsIn K mainGlobals "dict" = some none)
  {aONE aO1 aO0 : Addr} {odO odO1 odO0 : Option Addr} {nO nO1 nO0 : Nat} {slO slO1 slO0 : Array (Option Value)} {tO : Tok}
  (zO : PySem.W.nsIn K mainGlobals "ONE" = some (some (.ref aONE)))
  (lO : K.lookup aONE = some ⟨.type "tuple", odO, .seq #[.ref aO1] nO, slO⟩)
  (lO1 : K.lookup aO1 = some ⟨.type "tuple", odO1, .seq #[.ref aO0, .int 1 tO] nO1, slO1⟩)
  (lO0 : K.lookup aO0 = some ⟨.type "tuple", odO0, .seq #[] nO0, slO0⟩)
  :
  ∃ fd : FuncData, (∀ (s : Shared) (v : Value), BindsTo s fd ⟨[v], []⟩ [("_law_script", v)]) /\ ∀ base : Heap, K.In base -> base.Ns mainGlobals mg -> bg l.prog w K mg base CX0 27 fa fd ["_law_script"] (ng K) := by
 have e := hfa.symm.trans (PySem.W.mg_of X G a26)
 cases e
 have T : Txt K mg := ⟨PySem.W.mg_none_of X G z1, PySem.W.mg_none_of X G z2, PySem.W.mg_none_of X G z3, PySem.W.mg_none_of X G z4, PySem.W.mg_none_of X G z5, PySem.W.mg_none_of X G z6, PySem.W.mg_none_of X G z7, PySem.W.mg_none_of X G z8, PySem.W.mg_none_of X G z9, PySem.W.mg_none_of X G z10, PySem.W.mg_none_of X G z11, PySem.W.mg_none_of X G z12, PySem.W.mg_none_of X G z13, PySem.W.mg_none_of X G z14, PySem.W.mg_none_of X G z15⟩
 have F1 := bf (st := bd) l1 c1 k1
 have b1 := F1.binds (ps := ["parts"]) fun _ _ _ _ _ _ => us1 fun _ => rfl
 have F2 := bf (st := eP) l2 c2 k2
 have b2 := F2.binds (ps := ["a", "numbers"]) fun _ _ _ _ _ _ => us2 fun _ _ => rfl
 have F3 := bf (st := cf) l3 c3 k3
 have b3 := F3.binds (ps := ["whole", "parts_of"]) fun _ _ _ _ _ _ => us2 fun _ _ => rfl
 have F4 := bf (st := bO) l4 c4 k4
 have b4 := F4.binds (ps := ["value"]) fun _ _ _ _ _ _ => us1 fun _ => rfl
 have F5 := bf (st := fU) l5 c5 k5
 have b5 := F5.binds (ps := ["value"]) fun _ _ _ _ _ _ => us1 fun _ => rfl
 have F6 := bf (st := eL) l6 c6 k6
 have b6 := F6.binds (ps := ["kind", "numbers"]) fun _ _ _ _ _ _ => us2 fun _ _ => rfl
 have F7 := bf (st := dB) l7 c7 k7
 have b7 := F7.binds (ps := ["kind", "numbers", "flat"]) fun _ _ _ _ _ _ => us3 fun _ _ _ => rfl
 have F8 := bf (st := bR) l8 c8 k8
 have b8 := F8.binds (ps := ["a"]) fun _ _ _ _ _ _ => us1 fun _ => rfl
 have F9 := bf (st := cc) l9 c9 k9
 have b9 := F9.binds (ps := ["s", "t"]) fun _ _ _ _ _ _ => us2 fun _ _ => rfl
 have F10 := bf (st := cI) l10 c10 k10
 have b10 := F10.binds (ps := ["s", "t"]) fun _ _ _ _ _ _ => us2 fun _ _ => rfl
 have F11 := bf (st := dw) l11 c11 k11
 have b11 := F11.binds (ps := ["kind"]) fun _ _ _ _ _ _ => us1 fun _ => rfl
 have F12 := bf (st := dz) l12 c12 k12
 have b12 := F12.binds (ps := ["base", "power"]) fun _ _ _ _ _ _ => us2 fun _ _ => rfl
 have F13 := bf (st := bq) l13 c13 k13
 have b13 := F13.binds (ps := ["powers", "numbers"]) fun _ _ _ _ _ _ => us2 fun _ _ => rfl
 have F14 := bf (st := bS) l14 c14 k14
 have b14 := F14.binds (ps := ["s", "numbers"]) fun _ _ _ _ _ _ => us2 fun _ _ => rfl
 have F15 := bf (st := eN) l15 c15 k15
 have b15 := F15.binds (ps := ["_law_cell", "_law_k"]) fun _ _ _ _ _ _ => us2 fun _ _ => rfl
 have F16 := bf (st := dg) l16 c16 k16
 have b16 := F16.binds (ps := ["_law_number"]) fun _ _ _ _ _ _ => us1 fun _ => rfl
 have F17 := bf (st := fS) l17 c17 k17
 have b17 := F17.binds (ps := ["_law_number"]) fun _ _ _ _ _ _ => us1 fun _ => rfl
 have F18 := bf (st := dq) l18 c18 k18
 have b18 := F18.binds (ps := ["_law_length_here", "_law_numbers_here"]) fun _ _ _ _ _ _ => us2 fun _ _ => rfl
 have F19 := bf (st := gm) l19 c19 k19
 have b19 := F19.binds (ps := ["_law_kind_here", "_law_numbers_here"]) fun _ _ _ _ _ _ => us2 fun _ _ => rfl
 have F20 := bf (st := fZ) l20 c20 k20
 have b20 := F20.binds (ps := ["_law_kind_here", "_law_numbers_here"]) fun _ _ _ _ _ _ => us2 fun _ _ => rfl
 have F21 := bf (st := gi) l21 c21 k21
 have b21 := F21.binds (ps := ["_law_state", "_law_many_here"]) fun _ _ _ _ _ _ => us2 fun _ _ => rfl
 have F22 := bf (st := eO) l22 c22 k22
 have b22 := F22.binds (ps := ["_law_kind_here", "_law_numbers_here", "_law_state", "_law_flat"]) fun _ _ _ _ _ _ => us4 fun _ _ _ _ => rfl
 have F23 := bf (st := cJ) l23 c23 k23
 have b23 := F23.binds (ps := ["_law_cell", "_law_kind_here"]) fun _ _ _ _ _ _ => us2 fun _ _ => rfl
 have F24 := bf (st := eI) l24 c24 k24
 have b24 := F24.binds (ps := ["_law_found", "_law_due"]) fun _ _ _ _ _ _ => us2 fun _ _ => rfl
 have F25 := bf (st := cQ) l25 c25 k25
 have b25 := F25.binds (ps := ["_law_kind_here", "_law_numbers_here", "_law_state"]) fun _ _ _ _ _ _ => us3 fun _ _ _ => rfl
 have F26 := bf (st := fN) l26 c26 k26
 refine ⟨PySem.W.fnOf "law" "law" (aK fN) (aH fN) (aj fN) .none kV26 dc26 pm26 an26 cd26 ct26, fun s v => .of_eq rfl, fun base _ _ => ?_⟩
 have D1 : Def l.prog w K mg base 1 "gathered" ["parts"] (pd K) := ⟨f1, _, vg F1 T, b1, k1, PySem.W.mg_of X G a1⟩
 have D2 : Def l.prog w K mg base 1 "worth" ["a", "numbers"] cD := ⟨f2, _, rh F2 T, b2, k2, PySem.W.mg_of X G a2⟩
 have D18 : Def l.prog w K mg base 1 "_law_worth" ["_law_length_here", "_law_numbers_here"] cD := ⟨f18, _, pf F18 T, b18, k18, PySem.W.mg_of X G a18⟩
 have D4 : Def l.prog w K mg base 1 "things_in" ["value"] fg := ⟨f4, _, fw F4 T, b4, k4, PySem.W.mg_of X G a4⟩
 have D3 : Def l.prog w K mg base 2 "in_order" ["whole", "parts_of"] (gl f4) := ⟨f3, _, lH (k0 := 1) F3 T (fw F4 T) k4 b4, b3, k3, PySem.W.mg_of X G a3⟩
 have D5 : Def l.prog w K mg base 3 "laid" ["value"] lZ := ⟨f5, _, rZ (k0 := 2) F5 T D3 (PySem.W.mg_of X G a4), b5, k5, PySem.W.mg_of X G a5⟩
 have ch6 : ∀ n, bg l.prog w K mg base CX0 (1 + n) f6 _ ["kind", "numbers"] (eQ cnt n) := fun n => by
  induction n with
  | zero => exact ⟨fun vs H Q E h => (by obtain ⟨v, d, k, nums, rfl, _⟩ := h; rfl), fun A outer s H args us vs Q E hr he hb hv h => (by obtain ⟨v, d, k, nums, _, _, h1, _⟩ := h; have := k.size_pos; omega)⟩
  | succ n ih => exact pK (k0 := 1 + n) F6 T (D2.up (by omega)) ⟨f6, _, ih, b6, k6, PySem.W.mg_of X G a6⟩
 have D6 : Def l.prog w K mg base 13 "count_in" ["kind", "numbers"] (eQ cnt 12) := ⟨f6, _, ch6 12, b6, k6, PySem.W.mg_of X G a6⟩
 have ch19 : ∀ n, bg l.prog w K mg base CX0 (1 + n) f19 _ ["_law_kind_here", "_law_numbers_here"] (eQ cnt n) := fun n => by
  induction n with
  | zero => exact ⟨fun vs H Q E h => (by obtain ⟨v, d, k, nums, rfl, _⟩ := h; rfl), fun A outer s H args us vs Q E hr he hb hv h => (by obtain ⟨v, d, k, nums, _, _, h1, _⟩ := h; have := k.size_pos; omega)⟩
  | succ n ih => exact sX (k0 := 1 + n) F19 T (D18.up (by omega)) ⟨f19, _, ih, b19, k19, PySem.W.mg_of X G a19⟩
 have D19 : Def l.prog w K mg base 13 "_law_many" ["_law_kind_here", "_law_numbers_here"] (eQ cnt 12) := ⟨f19, _, ch19 12, b19, k19, PySem.W.mg_of X G a19⟩
 have ch20 : ∀ n, bg l.prog w K mg base CX0 (1 + n) f20 _ ["_law_kind_here", "_law_numbers_here"] (eQ rws n) := fun n => by
  induction n with
  | zero => exact ⟨fun vs H Q E h => (by obtain ⟨v, d, k, nums, rfl, _⟩ := h; rfl), fun A outer s H args us vs Q E hr he hb hv h => (by obtain ⟨v, d, k, nums, _, _, h1, _⟩ := h; have := k.size_pos; omega)⟩
  | succ n ih => exact sO (k0 := 1 + n) F20 T (D18.up (by omega)) ⟨f20, _, ih, b20, k20, PySem.W.mg_of X G a20⟩
 have D20 : Def l.prog w K mg base 13 "_law_rows" ["_law_kind_here", "_law_numbers_here"] (eQ rws 12) := ⟨f20, _, ch20 12, b20, k20, PySem.W.mg_of X G a20⟩
 have ch7 : ∀ n, bg l.prog w K mg base CX0 (13 + n) f7 _ ["kind", "numbers", "flat"] (eg n) := fun n => by
  induction n with
  | zero => exact ⟨fun vs H Q E h => (by obtain ⟨v, d, b, k, nums, x, rfl, _⟩ := h; rfl), fun A outer s H args us vs Q E hr he hb hv h => (by obtain ⟨v, d, b, k, nums, x, _, _, _, _, _, h1, _⟩ := h; have := k.size_pos; omega)⟩
  | succ n ih => exact ou (k0 := 13 + n) F7 T (D2.up (by omega)) (D6.up (by omega)) ⟨f7, _, ih, b7, k7, PySem.W.mg_of X G a7⟩
 have D7 : Def l.prog w K mg base 25 "raised" ["kind", "numbers", "flat"] (eg 12) := ⟨f7, _, ch7 12, b7, k7, PySem.W.mg_of X G a7⟩
 have D8 : Def l.prog w K mg base 2 "of_length" ["a"] (je K) := ⟨f8, _, jO (k0 := 1) F8 T (D1.up (by decide)), b8, k8, PySem.W.mg_of X G a8⟩
 have D9 : Def l.prog w K mg base 2 "together" ["s", "t"] (pZ K) := ⟨f9, _, kP (k0 := 1) F9 T (D1.up (by decide)), b9, k9, PySem.W.mg_of X G a9⟩
 have D10 : Def l.prog w K mg base 2 "product" ["s", "t"] (mJ K) := ⟨f10, _, ma (k0 := 1) F10 T (D1.up (by decide)), b10, k10, PySem.W.mg_of X G a10⟩
 have sz : ∀ n : Nat, n <= 2 -> n <= sizeLine := fun n h => by rw [sizeLine_eq]; omega
 have hONE : ∀ H, SmR K H [([], 1)] (.ref aONE) := fun H => ⟨aONE, [.ref aO1], rfl, .inr ⟨_, _, _, lO, rfl, rfl, sz 1 (by decide), .cons rfl .nil⟩, .cons ⟨aO1, aO0, rfl, .inr ⟨_, _, _, lO1, rfl, rfl, sz 2 (by decide), .cons rfl (.cons ⟨tO, rfl⟩ .nil)⟩, .inr ⟨rfl, .inr ⟨_, _, _, lO0, rfl, rfl, sz 0 (by decide), .nil⟩⟩⟩ .nil⟩
 have ch11 : ∀ n, bg l.prog w K mg base CX0 (2 + n) f11 _ ["kind"] (dY K n) := fun n => by
  induction n with
  | zero => exact ⟨fun vs H Q E h => (by obtain ⟨v, k, rfl, _⟩ := h; rfl), fun A outer s H args us vs Q E hr he hb hv h => (by obtain ⟨v, k, _, _, h1, _⟩ := h; have := k.size_pos; omega)⟩
  | succ n ih => exact oJ (k0 := 2 + n) F11 T (PySem.W.mg_of X G zO) hONE (D8.up (by omega)) (D9.up (by omega)) (D10.up (by omega)) ⟨f11, _, ih, b11, k11, PySem.W.mg_of X G a11⟩
 have D11 : Def l.prog w K mg base 14 "weight" ["kind"] (dY K 12) := ⟨f11, _, ch11 12, b11, k11, PySem.W.mg_of X G a11⟩
 have D12 : Def l.prog w K mg base 1 "to_the" ["base", "power"] jx := ⟨f12, _, oN F12 T, b12, k12, PySem.W.mg_of X G a12⟩
 have D13 : Def l.prog w K mg base 2 "product_worth" ["powers", "numbers"] (iu K) := ⟨f13, _, gh (k0 := 1) F13 T (D12.up (by decide)), b13, k13, PySem.W.mg_of X G a13⟩
 have D14 : Def l.prog w K mg base 3 "sum_worth" ["s", "numbers"] (iw K) := ⟨f14, _, jV (k0 := 2) F14 T (D13.up (by decide)), b14, k14, PySem.W.mg_of X G a14⟩
 have D15 : Def l.prog w K mg base 1 "_law_mixed" ["_law_cell", "_law_k"] jT := ⟨f15, _, qu F15 T, b15, k15, PySem.W.mg_of X G a15⟩
 have D16 : Def l.prog w K mg base 1 "_law_length" ["_law_number"] rf := ⟨f16, _, oB F16 T, b16, k16, PySem.W.mg_of X G a16⟩
 have D17 : Def l.prog w K mg base 2 "_law_kind" ["_law_number"] mM := ⟨f17, _, rM (k0 := 1) F17 T (D16.up (by decide)), b17, k17, PySem.W.mg_of X G a17⟩
 have D21 : Def l.prog w K mg base 1 "_law_next" ["_law_state", "_law_many_here"] lQ := ⟨f21, _, sL F21 T, b21, k21, PySem.W.mg_of X G a21⟩
 have ch22 : ∀ n, bg l.prog w K mg base CX0 (1 + n) f22 _ ["_law_kind_here", "_law_numbers_here", "_law_state", "_law_flat"] (fI n) := fun n => by
  induction n with
  | zero => exact ⟨fun vs H Q E h => (by obtain ⟨v, d, a, b, k, nums, is, rfl, _⟩ := h; rfl), fun A outer s H args us vs Q E hr he hb hv h => (by obtain ⟨v, d, a, b, k, nums, is, _, _, _, _, _, _, _, h1, _⟩ := h; have := k.size_pos; omega)⟩
  | succ n ih => exact qV (k0 := 1 + n) F22 T (D18.up (by omega)) (D21.up (by omega)) ⟨f22, _, ih, b22, k22, PySem.W.mg_of X G a22⟩
 have D22 : Def l.prog w K mg base 13 "_law_value" ["_law_kind_here", "_law_numbers_here", "_law_state", "_law_flat"] (fI 12) := ⟨f22, _, ch22 12, b22, k22, PySem.W.mg_of X G a22⟩
 have D23 : Def l.prog w K mg base 14 "_law_numbers" ["_law_cell", "_law_kind_here"] ga := ⟨f23, _, mi (k0 := 13) F23 T (D20.up (by decide)), b23, k23, PySem.W.mg_of X G a23⟩
 have ch24 : ∀ n, bg l.prog w K mg base CX0 (0 + n) f24 _ ["_law_found", "_law_due"] (fy n) := fun n => by
  induction n with
  | zero => exact ⟨fun vs H Q E h => (by obtain ⟨u, v, d, rfl, _⟩ := h; rfl), fun A outer s H args us vs Q E hr he hb hv h => (by obtain ⟨u, v, d, _, _, _, h1, _⟩ := h; cases h1)⟩
  | succ n ih => exact pJ (k0 := 0 + n) F24 T ⟨f24, _, ih, b24, k24, PySem.W.mg_of X G a24⟩
 have D24 : Def l.prog w K mg base 14 "_law_alike" ["_law_found", "_law_due"] (fy 14) := ⟨f24, _, ch24 14, b24, k24, PySem.W.mg_of X G a24⟩
 have D25 : Def l.prog w K mg base 26 "_law_right" ["_law_kind_here", "_law_numbers_here", "_law_state"] jZ := ⟨f25, _, qr (k0 := 25) F25 T (D22.up (by decide)) (D5.up (by decide)) (D24.up (by decide)) (D19.up (by decide)) (D14.up (by decide)) (D11.up (by decide)) (D7.up (by decide)), b25, k25, PySem.W.mg_of X G a25⟩
 exact uc (k0 := 26) F26 T (D15.up (by decide)) (D17.up (by decide)) (D23.up (by decide)) (D20.up (by decide)) (D25.up (by decide))
theorem walk {l : PySem.W.OpenLaw} {q : Program} {loose : List Str} {XP : (Str -> Option Value) -> Heap -> Prop} {YP : World -> Heap -> Prop} {d : DefRec} {K : Params -> PySem.W.Frag} (hn : l.most = some 63) (hdf : d.params.defaults = [])
  (hY : ∀ (w : World) (h : Heap), YP w h -> (K w.params).In h)
  (F : ∀ (w : World) (mg : Str -> Option Value) (fa : Addr) (h : Heap), (K w.params).In h -> h.Ns mainGlobals mg -> mg d.name = some (.ref fa) ->
   ∃ fd : FuncData, (∀ (s : Shared) (u : Value), BindsTo s fd ⟨[u], []⟩ [("_law_script", u)]) /\ ∀ base : Heap, (K w.params).In base -> base.Ns mainGlobals mg -> bg l.prog w (K w.params) mg base CX0 27 fa fd ["_law_script"] (ng (K w.params))) :
  PySem.W.WalkO q loose XP YP l.row.toRowW d [] (fun f vs => PySem.call f vs) :=
 L2.walk_of (n := 63) (k := 27) (x := "_law_script") (CX := fun _ => CX0) (sp := fun w => ng (K w.params)) hn (by decide) hdf ⟨rfl, by decide, by decide⟩ hY F (fun _ _ a ns hl _ hS => ⟨a, ns, rfl, hS, hl, fun _ => rfl⟩) fun _ _ _ _ _ z => z
end K51
def PySem.W.Fast.tw13021276774992980842 : Nat := 0
def PySem.W.Fast.tw14079178722953964444 : Nat := 0
def PySem.W.Fast.tw1212777798946004508 : Nat := 0
def PySem.W.Fast.tw12555688299193478639 : Nat := 0
def PySem.W.Fast.tw13062992640163213994 : Nat := 0
def PySem.W.Fast.tw15039116473932237196 : Nat := 0
def PySem.W.Fast.tw4907475354385965029 : Nat := 0
def PySem.W.Fast.tw8489761721409813075 : Nat := 0
def PySem.W.Fast.tw11014085897110533228 : Nat := 0
def PySem.W.Fast.tw1575552720067666567 : Nat := 0
def PySem.W.Fast.tw9267622643872737152 : Nat := 0
def PySem.W.Fast.tw10153631464241694601 : Nat := 0
def PySem.W.Fast.tw2713841747470634417 : Nat := 0
def PySem.W.Fast.tw4565905739658402441 : Nat := 0
def PySem.W.Fast.tw9785221638147449669 : Nat := 0
def PySem.W.Fast.tw10152475286772053819 : Nat := 0
def PySem.W.Fast.tw3990863299035017617 : Nat := 0
def PySem.W.Fast.tw4288025881310289182 : Nat := 0
def PySem.W.Fast.tw4735094728445341641 : Nat := 0
def PySem.W.Fast.tw1305539975667286438 : Nat := 0
def PySem.W.Fast.tw8291106164695458704 : Nat := 0
def PySem.W.Fast.tw16568107244494642096 : Nat := 0
def PySem.W.Fast.tw12154280896048834228 : Nat := 0
def PySem.W.Fast.tw16809692346825606451 : Nat := 0
def PySem.W.Fast.tw758885720463632628 : Nat := 0
def PySem.W.Fast.tw11363845648617641523 : Nat := 0
def PySem.W.Fast.tw6210563309042916494 : Nat := 0
open PySem PySem.W PyProof.Rows
set_option maxRecDepth 100000 in
set_option maxHeartbeats 0 in
theorem PySem.Challenge.cw_indexwise_k51_laid_and_raised_holds : PySem.Challenge.rw_indexwise_k51_laid_and_raised.Holds := by
 w_on; o_law; k_head; (case hw => w_witness2)
 k_fill
 refine K51.walk (l := PySem.Challenge.rw_indexwise_k51_laid_and_raised) rfl rfl (fun w h Y => PySem.W.kIn_of Y) ?F
 case F =>
  intro w mg fa h KX G hmg
  refine' K51.all_mk KX G hmg ?a1 ?l1 ?c1 ?k1 ?a2 ?l2 ?c2 ?k2 ?a3 ?l3 ?c3 ?k3 ?a4 ?l4 ?c4 ?k4 ?a5 ?l5 ?c5 ?k5 ?a6 ?l6 ?c6 ?k6 ?a7 ?l7 ?c7 ?k7 ?a8 ?l8 ?c8 ?k8 ?a9 ?l9 ?c9 ?k9 ?a10 ?l10 ?c10 ?k10 ?a11 ?l11 ?c11 ?k11 ?a12 ?l12 ?c12 ?k12 ?a13 ?l13 ?c13 ?k13 ?a14 ?l14 ?c14 ?k14 ?a15 ?l15 ?c15 ?k15 ?a16 ?l16 ?c16 ?k16 ?a17 ?l17 ?c17 ?k17 ?a18 ?l18 ?c18 ?k18 ?a19 ?l19 ?c19 ?k19 ?a20 ?l20 ?c20 ?k20 ?a21 ?l21 ?c21 ?k21 ?a22 ?l22 ?c22 ?k22 ?a23 ?l23 ?c23 ?k23 ?a24 ?l24 ?c24 ?k24 ?a25 ?l25 ?c25 ?k25 ?a26 ?l26 ?c26 ?k26 ?z1 ?z2 ?z3 ?z4 ?z5 ?z6 ?z7 ?z8 ?z9 ?z10 ?z11 ?z12 ?z13 ?z14 ?z15 ?zO ?lO ?lO1 ?lO0
  (case a1 => k_is); (case l1 => k_is); (case c1 => k_is); (case k1 => k_is)
  (case a2 => k_is); (case l2 => k_is); (case c2 => k_is); (case k2 => k_is)
  (case a3 => k_is); (case l3 => k_is); (case c3 => k_is); (case k3 => k_is)
  (case a4 => k_is); (case l4 => k_is); (case c4 => k_is); (case k4 => k_is)
  (case a5 => k_is); (case l5 => k_is); (case c5 => k_is); (case k5 => k_is)
  (case a6 => k_is); (case l6 => k_is); (case c6 => k_is); (case k6 => k_is)
  (case a7 => k_is); (case l7 => k_is); (case c7 => k_is); (case k7 => k_is)
  (case a8 => k_is); (case l8 => k_is); (case c8 => k_is); (case k8 => k_is)
  (case a9 => k_is); (case l9 => k_is); (case c9 => k_is); (case k9 => k_is)
  (case a10 => k_is); (case l10 => k_is); (case c10 => k_is); (case k10 => k_is)
  (case a11 => k_is); (case l11 => k_is); (case c11 => k_is); (case k11 => k_is)
  (case a12 => k_is); (case l12 => k_is); (case c12 => k_is); (case k12 => k_is)
  (case a13 => k_is); (case l13 => k_is); (case c13 => k_is); (case k13 => k_is)
  (case a14 => k_is); (case l14 => k_is); (case c14 => k_is); (case k14 => k_is)
  (case a15 => k_is); (case l15 => k_is); (case c15 => k_is); (case k15 => k_is)
  (case a16 => k_is); (case l16 => k_is); (case c16 => k_is); (case k16 => k_is)
  (case a17 => k_is); (case l17 => k_is); (case c17 => k_is); (case k17 => k_is)
  (case a18 => k_is); (case l18 => k_is); (case c18 => k_is); (case k18 => k_is)
  (case a19 => k_is); (case l19 => k_is); (case c19 => k_is); (case k19 => k_is)
  (case a20 => k_is); (case l20 => k_is); (case c20 => k_is); (case k20 => k_is)
  (case a21 => k_is); (case l21 => k_is); (case c21 => k_is); (case k21 => k_is)
  (case a22 => k_is); (case l22 => k_is); (case c22 => k_is); (case k22 => k_is)
  (case a23 => k_is); (case l23 => k_is); (case c23 => k_is); (case k23 => k_is)
  (case a24 => k_is); (case l24 => k_is); (case c24 => k_is); (case k24 => k_is)
  (case a25 => k_is); (case l25 => k_is); (case c25 => k_is); (case k25 => k_is)
  (case a26 => k_is); (case l26 => k_is); (case c26 => k_is); (case k26 => k_is)
  (case z1 => k_is); (case z2 => k_is); (case z3 => k_is); (case z4 => k_is); (case z5 => k_is); (case z6 => k_is); (case z7 => k_is); (case z8 => k_is); (case z9 => k_is); (case z10 => k_is); (case z11 => k_is); (case z12 => k_is); (case z13 => k_is); (case z14 => k_is); (case z15 => k_is); (case zO => k_is); (case lO => k_is); (case lO1 => k_is); (case lO0 => k_is)
